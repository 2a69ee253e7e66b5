package control_test

import (
	"math"
	"math/rand"
	"slices"
	"testing"

	"shotdesk/api"
	"shotdesk/circuit"
	"shotdesk/control"
	"shotdesk/equil"
	"shotdesk/machine"
	"shotdesk/shape"
)

// looks is a check for an outlook.
func looks(t *testing.T, want api.State) func(api.State, api.Errno) {
	t.Helper()
	return func(s api.State, e api.Errno) {
		t.Helper()
		if e != api.OK || !circuit.Same(s, want) {
			t.Errorf("Outlook = %v, %d, not %v", s, e, want)
		}
	}
}

// 7.2
func TestOutlook(t *testing.T) {
	m, s := lone()
	m, s = withShell(m, s, 0, 0, 10)
	s.Tick = 41
	want := api.State{
		Tick:    42,
		C:       api.Currents{Coils: []int{700}, Shells: []int{10 - 1 - 700}, Plasma: []int{40000}},
		Heat:    []int{0},
		Tripped: []bool{false},
	}
	looks(t, want)(control.Outlook(m, s, []int{700}))
	// a change is cut as a tick cuts it
	want.C.Coils[0], want.C.Shells[0], want.Heat[0] = 1600, 9-1600, 1560
	looks(t, want)(control.Outlook(m, s, []int{api.MaxValue}))
	s.Tripped[0], s.Heat[0], s.C.Coils[0] = true, 1000000000, 1700
	want.Tripped[0], want.Heat[0], want.C.Coils[0], want.C.Shells[0] = true, 999999010, 100, 9+1600
	looks(t, want)(control.Outlook(m, s, []int{api.MaxValue}))
	s.Tick = lastTick
	if s, e := control.Outlook(m, s, []int{0}); e != api.ErrRange || !circuit.Same(s, api.State{}) {
		t.Errorf("Outlook behind the last tick = %v, %d", s, e)
	}
	for _, change := range [][]int{nil, {1, 2}, {api.MaxValue + 1}, {-api.MaxValue - 1}} {
		if s, e := control.Outlook(m, s, change); e != api.ErrInvalid || !circuit.Same(s, api.State{}) {
			t.Errorf("Outlook of %v = %v, %d", change, s, e)
		}
	}
}

// 7.2, of any state
func TestSomeOutlooks(t *testing.T) {
	r := rand.New(rand.NewSource(6))
	for range 1000 {
		m, s := some(r, 2)
		wish := someWish(r, m)
		want, e := circuit.Step(m, s, api.Drive{Change: wish, Plasma: s.C.Plasma})
		if e != api.OK {
			t.Fatalf("Step = %d", e)
		}
		looks(t, want)(control.Outlook(m, s, wish))
	}
}

// 7.2: the force on the coil is 3 for each of its amperes where the cell has 40,000
func TestSafeByForces(t *testing.T) {
	m, s := lone()
	safe := func(want api.Truth, change, force int, x ...int) {
		t.Helper()
		is(t, "Safe", want)(control.Safe(m, s, []int{change}, box(x...), api.Safety{Force: force}))
	}
	safe(api.Yes, 800, 2400, 40000, 40000)
	safe(api.No, 800, 2399, 40000, 40000)
	safe(api.Yes, -800, 2400, 40000, 40000)
	safe(api.No, -800, 2399, 40000, 40000)
	// the box counts, not the state's cells
	safe(api.Yes, 800, 2400, 0, 40000)
	safe(api.Maybe, 800, 2399, 0, 40000)
	safe(api.Maybe, 800, 2399, 39983, 40000)
	safe(api.Maybe, -800, 2399, 0, 40000)
	safe(api.Maybe, 800, 0, 0, 40000)
	safe(api.Maybe, 800, 0, 16, 40000)
	safe(api.No, 800, 0, 17, 40000)
	safe(api.No, 800, 1199, 20000, 40000)
	safe(api.Maybe, 800, 1200, 20000, 40000)
	safe(api.No, -800, 1199, 20000, 40000)
	safe(api.Maybe, -800, 1200, 20000, 40000)
	// rounded outward
	safe(api.Yes, 1, 1, 13333, 13333)
	safe(api.Maybe, 1, 0, 13333, 13333)
	safe(api.Maybe, -1, 0, 13333, 13333)
	safe(api.Yes, 0, 0, 0, api.MaxAmp)
}

// 7.2: each part of each coil's force counts
func TestSafeByEachForce(t *testing.T) {
	m, c := pair()
	s, _ := circuit.Begin(m)
	s.C = c
	s.C.Coils = []int{1000, 50}
	// R and Z of a, then of b
	x := box(10, 20, 0, 5)
	gives(t, "Forces", [2]api.Span{sp(75, 157), sp(78, 88)}, [2]api.Span{sp(0, 1), sp(-79, -78)})(control.Forces(m, s.C, x))
	safe := func(want api.Truth, force int) {
		t.Helper()
		is(t, "Safe", want)(control.Safe(m, s, []int{0, 0}, x, api.Safety{Force: force}))
	}
	safe(api.Yes, 157)
	safe(api.Maybe, 156)
	safe(api.Maybe, 88)
	safe(api.Maybe, 78)
	// one part that is surely beyond is enough
	safe(api.No, 77)
	safe(api.No, 0)
	// without the cell (3, 0) the parts Z decide
	x = box(0, 0, 0, 5)
	safe(api.Yes, 88)
	safe(api.Maybe, 87)
	// -79..-68 of a, and 78..79 of b
	s.C.Coils[1] = -50
	safe(api.Yes, 79)
	safe(api.Maybe, 78)
	safe(api.No, 77)
}

// 7.2: a shell is safe or not
func TestSafeByShells(t *testing.T) {
	m, s := lone()
	m, s = withShell(m, s, 0, 0, 0)
	m, s = withShell(m, s, 60, 60, -300)
	b := loose()
	// a change induces itself in the first shell, and the second one loses 1
	for _, c := range []struct {
		change, shell int
		want          api.Truth
	}{
		{800, 800, api.Yes}, {800, 799, api.No}, {-800, 800, api.Yes}, {-800, 799, api.No},
		{0, 299, api.Yes}, {0, 298, api.No}, {0, 0, api.No}, {api.MaxValue, 1600, api.Yes}, {api.MaxValue, 1599, api.No},
	} {
		b.Shell = c.shell
		is(t, "Safe", c.want)(control.Safe(m, s, []int{c.change}, dots(40000), b))
	}
	s.C.Shells[1] = 300
	b.Shell = 298
	is(t, "Safe", api.No)(control.Safe(m, s, []int{0}, dots(40000), b))
	// how much it has before does not matter
	m.Shells[1].Loss = 1000
	b.Shell = 0
	is(t, "Safe", api.Yes)(control.Safe(m, s, []int{0}, dots(40000), b))
	// No and Maybe are No
	b.Force = 0
	s.C.Coils[0] = 100
	is(t, "Safe", api.Maybe)(control.Safe(m, s, []int{0}, box(0, 40000), b))
	s.C.Shells[0] = 2
	is(t, "Safe", api.No)(control.Safe(m, s, []int{0}, box(0, 40000), b))
}

// 7.2: no coil may be tripped in the outlook
func TestSafeByTrips(t *testing.T) {
	m, s := lone()
	m.Coils[0].MaxHeat, m.Coils[0].Cool = 100, 10
	safe := func(change int, want api.Truth) {
		t.Helper()
		is(t, "Safe", want)(control.Safe(m, s, []int{change}, dots(40000), loose()))
	}
	// 331 * 331 / 1,000 - 10 = 99, and 333 * 333 / 1,000 - 10 = 100, and 334 * 334 / 1,000 - 10 = 101
	safe(331, api.Yes)
	safe(333, api.Yes)
	safe(334, api.No)
	safe(-333, api.Yes)
	safe(-334, api.No)
	// also if it was tripped before
	s.Heat[0], s.Tripped[0] = 61, true
	safe(0, api.No)
	// but not if it is tripped no more in the outlook
	s.Heat[0] = 60
	safe(0, api.Yes)
	s.C.Coils[0] = 1600
	safe(0, api.Yes)
	s.C.Coils[0] = 1601
	safe(0, api.No)
	s.C.Coils[0], s.Heat[0] = 1600, 61
	safe(0, api.No)
	safe(-1600, api.No)
	// each coil counts
	n, c := pair()
	p, _ := circuit.Begin(n)
	p.C = c
	p.Heat, p.Tripped = []int{0, 100000}, []bool{false, true}
	is(t, "Safe", api.No)(control.Safe(n, p, []int{0, 0}, dots(0, 0), loose()))
	p.Heat, p.Tripped = []int{1000000000, 0}, []bool{true, false}
	is(t, "Safe", api.No)(control.Safe(n, p, []int{0, 0}, dots(0, 0), loose()))
}

// 7.2: a machine without coils and shells is always safe
func TestSafeWithoutAnything(t *testing.T) {
	m, s := lone()
	m.Coils, s.C.Coils, s.Heat, s.Tripped = nil, nil, nil, nil
	is(t, "Safe", api.Yes)(control.Safe(m, s, nil, box(0, api.MaxAmp), api.Safety{}))
	lets(t, "Let", 8)(control.Let(m, s, nil, box(0, api.MaxAmp), api.Safety{}))
	for _, wish := range [][]int{{0}, {api.MaxValue + 1}, {math.MinInt, 0}} {
		if o, e := control.Let(m, s, wish, dots(0), api.Safety{}); e != api.ErrInvalid || len(o.Change) > 0 || o.Share != 0 {
			t.Errorf("Let of %v = %v, %d", wish, o, e)
		}
	}
	// a shell can break without coils
	m, s = withShell(m, s, 0, 0, 100)
	lets(t, "Let", 8)(control.Let(m, s, nil, dots(0), api.Safety{Shell: 99}))
	lets(t, "Let", -1)(control.Let(m, s, nil, dots(0), api.Safety{Shell: 98}))
}

// 7.2
func TestLet(t *testing.T) {
	m, s := lone()
	let := func(force, share int, change ...int) {
		t.Helper()
		lets(t, "Let", share, change...)(control.Let(m, s, []int{800}, dots(40000), api.Safety{Force: force}))
	}
	let(2400, 8, 800)
	let(api.MaxValue, 8, 800)
	let(2399, 7, 700)
	let(2100, 7, 700)
	let(2099, 6, 600)
	let(1500, 5, 500)
	let(1499, 4, 400)
	let(900, 3, 300)
	let(899, 2, 200)
	let(300, 1, 100)
	let(299, 0, 0)
	let(0, 0, 0)
	// where what is there breaks already, nothing but the fall is left
	s.C.Coils[0] = 100
	let(300, 0, 0)
	let(299, -1, -100)
	s.C.Coils[0] = 1700
	let(299, -1, -1600)
	s.C.Coils[0] = -1700
	let(299, -1, 1600)
	// a share may be safe where a smaller one is not
	s.C.Coils[0] = -900
	let(2700, 8, 800)
	let(300, 8, 800)
	let(299, -1, 900)
}

// 7.2: the shares above and below the one that is let through may be unsafe
func TestLetBetween(t *testing.T) {
	m, s := lone()
	s.C.Coils[0] = -1000
	let := func(force, share int, change ...int) {
		t.Helper()
		lets(t, "Let", share, change...)(control.Let(m, s, []int{1600}, dots(40000), api.Safety{Force: force}))
	}
	let(1800, 8, 1600)
	let(1799, 7, 1400)
	let(600, 6, 1200)
	let(599, 5, 1000)
	let(0, 5, 1000)
}

// 7.2: Maybe is not enough
func TestLetIsSure(t *testing.T) {
	m, s := lone()
	b := api.Safety{Force: 1000}
	lets(t, "Let", 3, 300)(control.Let(m, s, []int{800}, box(40000, 40000), b))
	lets(t, "Let", 3, 300)(control.Let(m, s, []int{800}, box(0, 40000), b))
	lets(t, "Let", 1, 100)(control.Let(m, s, []int{800}, box(0, 80000), b))
	lets(t, "Let", 0, 0)(control.Let(m, s, []int{800}, box(0, 400000), b))
	lets(t, "Let", 1, -100)(control.Let(m, s, []int{-800}, box(0, 80000), b))
	s.C.Coils[0] = 10
	lets(t, "Let", -1, -10)(control.Let(m, s, []int{800}, box(0, 400000), api.Safety{Force: 299}))
}

// 7.2: shells and trips
func TestLetByShellsAndTrips(t *testing.T) {
	m, s := lone()
	m, s = withShell(m, s, 0, 0, 0)
	b := loose()
	b.Shell = 250
	lets(t, "Let", 2, 200)(control.Let(m, s, []int{800}, dots(0), b))
	lets(t, "Let", 2, -200)(control.Let(m, s, []int{-800}, dots(0), b))
	s.C.Shells[0] = 301
	lets(t, "Let", 6, 600)(control.Let(m, s, []int{800}, dots(0), api.Safety{Shell: 300}))
	lets(t, "Let", 0, 0)(control.Let(m, s, []int{-800}, dots(0), api.Safety{Shell: 300}))
	lets(t, "Let", -1, 0)(control.Let(m, s, []int{-800}, dots(0), api.Safety{Shell: 299}))
	m.Coils[0].MaxHeat, m.Coils[0].Cool = 100, 10
	lets(t, "Let", 3, 300)(control.Let(m, s, []int{800}, dots(0), loose()))
	s.Tripped[0], s.Heat[0], s.C.Coils[0] = true, 61, 70
	lets(t, "Let of a tripped coil", -1, -70)(control.Let(m, s, []int{800}, dots(0), loose()))
	lets(t, "Let of a tripped coil", -1, -70)(control.Let(m, s, []int{0}, dots(0), loose()))
	// the other coil falls, too
	n, c := pair()
	p, _ := circuit.Begin(n)
	p.C = c
	p.C.Coils, p.Heat, p.Tripped = []int{1500, -30}, []int{0, 100000}, []bool{false, true}
	lets(t, "Let of a tripped coil", -1, -1000, 30)(control.Let(n, p, []int{800, 80}, dots(0, 0), loose()))
}

// 7.2: the eighths are those of the wish, before a tick cuts them
func TestLetOfALargeWish(t *testing.T) {
	m, s := lone()
	b := api.Safety{Force: 3 * 1599}
	lets(t, "Let", 0, 0)(control.Let(m, s, []int{api.MaxValue}, dots(40000), b))
	lets(t, "Let", 0, 0)(control.Let(m, s, []int{-api.MaxValue}, dots(40000), b))
	lets(t, "Let", 1, 1599)(control.Let(m, s, []int{1599*8 + 7}, dots(40000), b))
	b.Force++
	lets(t, "Let", 1, -1599)(control.Let(m, s, []int{-1599*8 - 7}, dots(40000), b))
	b.Force = 3 * 1600
	lets(t, "Let", 8, api.MaxValue)(control.Let(m, s, []int{api.MaxValue}, dots(40000), b))
	for _, wish := range [][]int{nil, {0, 0}, {api.MaxValue + 1}, {-api.MaxValue - 1}} {
		if o, e := control.Let(m, s, wish, dots(40000), b); e != api.ErrInvalid || len(o.Change) > 0 || o.Share != 0 {
			t.Errorf("Let of %v = %v, %d", wish, o, e)
		}
	}
}

// 7.2, of any machine
func TestSomeOrders(t *testing.T) {
	r := rand.New(rand.NewSource(7))
	truths, shares := map[api.Truth]int{}, map[int]int{}
	for range 6000 {
		m, s := some(r, 3)
		x := someBox(r, s, 100000>>r.Intn(20))
		wish := someWish(r, m)
		b := tight(r, m, s, wish, x)
		truth := modelSafe(m, s, wish, x, b)
		truths[truth]++
		is(t, "Safe", truth)(control.Safe(m, s, wish, x, b))
		order := modelLet(m, s, wish, x, b)
		shares[order.Share]++
		lets(t, "Let", order.Share, order.Change...)(control.Let(m, s, wish, x, b))
	}
	for _, truth := range []api.Truth{api.Yes, api.No, api.Maybe} {
		if truths[truth] < 400 {
			t.Errorf("too few cases: %v", truths)
		}
	}
	for share := -1; share <= 8; share++ {
		if shares[share] < 40 {
			t.Errorf("too few cases: %v", shares)
		}
	}
}

// the chapter's shield, by a controller that acts on a shape
func TestControllerAndShield(t *testing.T) {
	m, s := lone()
	x := api.Setup{Gains: []api.Gain{{R: 2000, SumR: 1000}}, Most: 250}
	plasma := seen(sp(4200, 4700), sp(-5, 5))
	y, e := control.Remember(x.Most, api.Memory{}, api.Goal{R: 5000}, plasma)
	if e != api.OK || y != (api.Memory{SumR: 250}) {
		t.Fatalf("Remember = %v, %d", y, e)
	}
	wish, e := control.Wish(m, x, y, api.Goal{R: 5000}, plasma)
	if e != api.OK || !slices.Equal(wish, []int{850}) {
		t.Fatalf("Wish = %v, %d", wish, e)
	}
	whole, _ := control.Whole(m, 40000)
	fixed, _ := control.Fixed(m, s.C)
	lets(t, "Let", 7, 743)(control.Let(m, s, wish, whole, api.Safety{Force: 2300}))
	lets(t, "Let", 7, 743)(control.Let(m, s, wish, fixed, api.Safety{Force: 2300}))
}

// P11: a controller that acts on an equilibrium which was found with its proof
func TestControllerOfAFoundBox(t *testing.T) {
	m, _, e := machine.Parse("machine demo\ncoil a 0 0 100 100 10 1000 5\nlimit 20 0\ngrid 10 -2 3 3 2\n")
	if e != api.OK {
		t.Fatalf("Parse = %d", e)
	}
	c := machine.Quiet(m)
	c.Coils[0] = 100
	box, e := equil.Find(m, c, 100)
	if e != api.OK || !equil.Judge(m, c, 100, box) {
		t.Fatalf("Find = %v, %d", box, e)
	}
	plasma, _ := shape.Make(m, c, 100, box)
	x, goal := api.Setup{Gains: []api.Gain{{R: 6}}, Most: 1000}, api.Goal{R: 10000}
	errs(t, sp(-1520, -1280), sp(-120, 120), api.OK)(control.Errors(goal, plasma))
	y, e := control.Remember(x.Most, api.Memory{}, goal, plasma)
	if e != api.OK || y != (api.Memory{SumR: -1000}) {
		t.Errorf("Remember = %v, %d", y, e)
	}
	wish, e := control.Wish(m, x, y, goal, plasma)
	if e != api.OK || !slices.Equal(wish, []int{-7}) {
		t.Errorf("Wish = %v, %d", wish, e)
	}
	s, _ := circuit.Begin(m)
	s.C.Coils[0] = 50
	lets(t, "Let", 8, -7)(control.Let(m, s, wish, box, api.Safety{Force: 2}))
	lets(t, "Let", -1, -10)(control.Let(m, s, wish, box, api.Safety{Force: 1}))
}
