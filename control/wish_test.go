package control_test

import (
	"math"
	"math/rand"
	"slices"
	"testing"

	"shotdesk/api"
	"shotdesk/control"
)

// gainsOf are the numbers of a gain.
func gainsOf(g *api.Gain) []*int { return []*int{&g.R, &g.Z, &g.SumR, &g.SumZ} }

// 7.1
func TestValidSetup(t *testing.T) {
	m, _ := pair()
	setup := func(do func(x *api.Setup)) api.Setup {
		x := api.Setup{Gains: make([]api.Gain, 2)}
		do(&x)
		return x
	}
	valid := func(want bool, do func(x *api.Setup)) {
		t.Helper()
		same(t, "ValidSetup", control.ValidSetup(m, setup(do)), want)
	}
	valid(true, func(x *api.Setup) {})
	valid(true, func(x *api.Setup) { x.Most = 1000000000 })
	valid(false, func(x *api.Setup) { x.Most = 1000000001 })
	valid(false, func(x *api.Setup) { x.Most = -1 })
	valid(false, func(x *api.Setup) { x.Gains = x.Gains[:1] })
	valid(false, func(x *api.Setup) { x.Gains = make([]api.Gain, 3) })
	valid(false, func(x *api.Setup) { x.Gains = nil })
	for coil := range 2 {
		for i := range 4 {
			gain := func(n int) func(x *api.Setup) {
				return func(x *api.Setup) { *gainsOf(&x.Gains[coil])[i] = n }
			}
			valid(true, gain(1000000))
			valid(true, gain(-1000000))
			valid(false, gain(1000001))
			valid(false, gain(-1000001))
			for _, n := range wild {
				valid(false, gain(n))
			}
		}
	}
	for _, n := range wild {
		valid(false, func(x *api.Setup) { x.Most = n })
	}
	same(t, "ValidSetup of no machine", control.ValidSetup(api.Machine{}, api.Setup{}), false)
	m.Limits = nil
	valid(false, func(x *api.Setup) {})
	m, _ = lone()
	m.Coils = nil
	same(t, "ValidSetup without coils", control.ValidSetup(m, api.Setup{}), true)
}

// 7.1
func TestValidSafety(t *testing.T) {
	for _, b := range []api.Safety{{}, {Shell: 1000000, Force: 1000000000000000}, {Shell: 7}, {Force: 7}} {
		same(t, "ValidSafety", control.ValidSafety(b), true)
	}
	for _, b := range []api.Safety{{Shell: -1}, {Force: -1}, {Shell: 1000001}, {Force: 1000000000000001}, {Shell: -1, Force: -1}} {
		same(t, "ValidSafety", control.ValidSafety(b), false)
	}
	for _, n := range wild {
		same(t, "ValidSafety", control.ValidSafety(api.Safety{Shell: n}), false)
		same(t, "ValidSafety", control.ValidSafety(api.Safety{Force: n}), false)
	}
}

// errs returns a check for two errors.
func errs(t *testing.T, wantR, wantZ api.Span, want api.Errno) func(r, z api.Span, e api.Errno) {
	t.Helper()
	return func(r, z api.Span, e api.Errno) {
		t.Helper()
		if r != wantR || z != wantZ || e != want {
			t.Errorf("Errors = %v, %v, %d, not %v, %v, %d", r, z, e, wantR, wantZ, want)
		}
	}
}

// 7.1
func TestErrorsOfShapes(t *testing.T) {
	errs(t, sp(300, 800), sp(-100, 100), api.OK)(control.Errors(api.Goal{R: 5000}, seen(sp(4200, 4700), sp(-100, 100))))
	errs(t, sp(-200, -200), sp(-60999, -60001), api.OK)(control.Errors(api.Goal{R: -300, Z: -60000}, seen(sp(-100, -100), sp(1, 999))))
	// a goal has its range
	errs(t, sp(60000, 60000), sp(60000, 60000), api.OK)(control.Errors(api.Goal{R: 60000, Z: 60000}, api.Shape{}))
	errs(t, sp(-60000, -60000), sp(-60000, -60000), api.OK)(control.Errors(api.Goal{R: -60000, Z: -60000}, api.Shape{}))
	for _, n := range append([]int{60001, -60001}, wild...) {
		errs(t, sp(0, 0), sp(0, 0), api.ErrInvalid)(control.Errors(api.Goal{R: n}, api.Shape{}))
		errs(t, sp(0, 0), sp(0, 0), api.ErrInvalid)(control.Errors(api.Goal{Z: n}, api.Shape{}))
	}
	// an error is a valid span, or none
	far := sp(-api.MaxValue, api.MaxValue)
	errs(t, far, far, api.OK)(control.Errors(api.Goal{}, seen(far, far)))
	errs(t, sp(0, 0), sp(0, 0), api.ErrBig)(control.Errors(api.Goal{R: 1}, seen(far, sp(7, 7))))
	errs(t, sp(0, 0), sp(0, 0), api.ErrBig)(control.Errors(api.Goal{R: -1}, seen(far, sp(7, 7))))
	errs(t, sp(0, 0), sp(0, 0), api.ErrBig)(control.Errors(api.Goal{Z: 1}, seen(sp(7, 7), far)))
	errs(t, sp(0, 0), sp(0, 0), api.ErrBig)(control.Errors(api.Goal{Z: -1}, seen(sp(7, 7), far)))
	errs(t, sp(1, api.MaxValue), sp(0, 0), api.OK)(control.Errors(api.Goal{R: 1}, seen(sp(1-api.MaxValue, 0), sp(0, 0))))
	// also quantities that are not asked for must be spans
	errs(t, sp(0, 0), sp(0, 0), api.ErrInvalid)(control.Errors(api.Goal{}, api.Shape{Lift: sp(1, 0)}))
}

// 7.1
func TestRemember(t *testing.T) {
	remember := func(most int, y api.Memory, g api.Goal, radius, height api.Span, want api.Memory) {
		t.Helper()
		is(t, "Remember", want)(control.Remember(most, y, g, seen(radius, height)))
	}
	goal := api.Goal{R: 5000, Z: -100}
	remember(10000, api.Memory{SumR: 20, SumZ: 30}, goal, sp(4200, 4700), sp(50, 70), api.Memory{SumR: 320, SumZ: -120})
	// where an error holds 0, nothing is proved
	remember(10000, api.Memory{SumR: 20, SumZ: 30}, goal, sp(4900, 5100), sp(-100, 0), api.Memory{SumR: 20, SumZ: 30})
	// each sum is cut
	remember(319, api.Memory{SumR: 20, SumZ: 30}, goal, sp(4200, 4700), sp(50, 70), api.Memory{SumR: 319, SumZ: -120})
	remember(119, api.Memory{SumR: 20, SumZ: 30}, goal, sp(4200, 4700), sp(50, 70), api.Memory{SumR: 119, SumZ: -119})
	remember(0, api.Memory{SumR: 20, SumZ: 30}, goal, sp(4200, 4700), sp(50, 70), api.Memory{})
	// also one that was beyond Most before
	remember(5, api.Memory{SumR: 1000000000, SumZ: -1000000000}, goal, sp(5000, 5000), sp(-100, -100), api.Memory{SumR: 5, SumZ: -5})
	// sums are exact before they are cut
	far := sp(-api.MaxValue, -api.MaxValue)
	remember(1000000000, api.Memory{SumR: 1000000000}, api.Goal{}, far, sp(api.MaxValue, api.MaxValue), api.Memory{SumR: 1000000000, SumZ: -1000000000})
	remember(1000000000, api.Memory{SumR: -1000000000}, api.Goal{}, sp(-2000000000, -2000000000), sp(0, 0), api.Memory{SumR: 1000000000})
	for _, n := range append([]int{1000000001, -1000000001}, wild...) {
		fails[api.Memory](t, "Remember", api.ErrInvalid)(control.Remember(5, api.Memory{SumR: n}, api.Goal{}, api.Shape{}))
		fails[api.Memory](t, "Remember", api.ErrInvalid)(control.Remember(5, api.Memory{SumZ: n}, api.Goal{}, api.Shape{}))
	}
	for _, n := range append([]int{1000000001, -1}, wild...) {
		fails[api.Memory](t, "Remember", api.ErrRange)(control.Remember(n, api.Memory{}, api.Goal{}, api.Shape{}))
	}
	fails[api.Memory](t, "Remember", api.ErrBig)(control.Remember(5, api.Memory{}, api.Goal{R: 1}, seen(far, sp(0, 0))))
	fails[api.Memory](t, "Remember", api.ErrRange)(control.Remember(-1, api.Memory{}, api.Goal{R: 1}, seen(far, sp(0, 0))))
}

// wishes is what the coil of a lone machine is wished, by a radius and a height for the goal 0, 0.
func wishes(t *testing.T, want int, gain api.Gain, y api.Memory, radius, height api.Span) {
	t.Helper()
	m, _ := lone()
	gives(t, "Wish", want)(control.Wish(m, api.Setup{Gains: []api.Gain{gain}}, y, api.Goal{}, seen(radius, height)))
}

// 7.1, and the chapter's examples
func TestWish(t *testing.T) {
	m, _ := lone()
	x := api.Setup{Gains: []api.Gain{{R: 2000}}}
	gives(t, "Wish", 600)(control.Wish(m, x, api.Memory{}, api.Goal{R: 5000}, seen(sp(4200, 4700), sp(0, 0))))
	gives(t, "Wish", 0)(control.Wish(m, x, api.Memory{}, api.Goal{R: 5000}, seen(sp(4900, 5100), sp(0, 0))))
	m.Coils[0].MaxStep = 599
	gives(t, "Wish", 599)(control.Wish(m, x, api.Memory{}, api.Goal{R: 5000}, seen(sp(4200, 4700), sp(0, 0))))
	gives(t, "Wish", -599)(control.Wish(m, x, api.Memory{}, api.Goal{R: 3900}, seen(sp(4200, 4700), sp(0, 0))))
	m.Coils[0].MaxStep = 600
	gives(t, "Wish", 600)(control.Wish(m, x, api.Memory{}, api.Goal{R: 5000}, seen(sp(4200, 4700), sp(0, 0))))
	// the memory is taken as it is, also beyond Most
	wishes(t, 3*100+5*20-7*30+11*40, api.Gain{R: 3000, Z: 5000, SumR: -7000, SumZ: 11000}, api.Memory{SumR: 30, SumZ: 40}, sp(-150, -100), sp(-20, -20))
	// each coil has its own gain and its own MaxStep
	m, _ = pair()
	x = api.Setup{Gains: []api.Gain{{R: 1000}, {Z: 1000}}, Most: 1}
	gives(t, "Wish", 500, -80)(control.Wish(m, x, api.Memory{}, api.Goal{R: 500}, seen(sp(-9, 0), sp(90, 99))))
	x.Gains[0], x.Gains[1] = x.Gains[1], x.Gains[0]
	gives(t, "Wish", -90, 80)(control.Wish(m, x, api.Memory{}, api.Goal{R: 500}, seen(sp(-9, 0), sp(90, 99))))
	m.Coils = nil
	gives[int](t, "Wish without coils")(control.Wish(m, api.Setup{}, api.Memory{}, api.Goal{}, api.Shape{}))
}

// 7.1: a wish is rounded towards 0, whatever its parts
func TestWishIsRounded(t *testing.T) {
	for _, c := range []struct{ want, r, z, sumR, sumZ int }{
		{1, 1999, 0, 0, 0}, {-1, -1999, 0, 0, 0}, {0, 999, 0, 0, 0}, {0, -999, 0, 0, 0},
		{0, 1000, -1, 0, 0}, {0, -1000, 1, 0, 0}, {1, 2000, -1, 0, 0}, {-1, -2000, 1, 0, 0},
		{1, 500, 500, 0, 0}, {-1, -500, -500, 0, 0}, {2, 1000, 500, 499, 1}, {-2, 0, -999, -999, -999},
		{1, 3000, -1500, 0, -1}, {-1, -3000, 1500, 1, 0}, {0, 3000, -2500, 0, 499},
	} {
		wishes(t, c.want, api.Gain{R: 1, Z: 1, SumR: 1, SumZ: 1}, api.Memory{SumR: c.sumR, SumZ: c.sumZ}, sp(-c.r, -c.r), sp(-c.z, -c.z))
		wishes(t, -c.want, api.Gain{R: -1, Z: -1, SumR: -1, SumZ: -1}, api.Memory{SumR: c.sumR, SumZ: c.sumZ}, sp(-c.r, -c.r), sp(-c.z, -c.z))
	}
}

// 7.1: a wish is exact, however large its parts
func TestWishIsExact(t *testing.T) {
	low, high := sp(-api.MaxValue, -api.MaxValue), sp(api.MaxValue, api.MaxValue)
	most := 1000000
	wishes(t, 0, api.Gain{R: most, Z: most}, api.Memory{}, low, high)
	wishes(t, 5, api.Gain{R: most, Z: most, SumR: 1000}, api.Memory{SumR: 5}, low, high)
	wishes(t, -5, api.Gain{R: most, Z: most, SumZ: 1000}, api.Memory{SumZ: -5}, low, high)
	wishes(t, 1600, api.Gain{R: most, Z: most}, api.Memory{}, low, low)
	wishes(t, -1600, api.Gain{R: most, Z: most}, api.Memory{}, high, high)
	wishes(t, 1600, api.Gain{R: -most, Z: -most, SumR: most, SumZ: most}, api.Memory{SumR: 1000000000, SumZ: 1000000000}, high, high)
	wishes(t, -1600, api.Gain{R: -most, Z: -most, SumR: most, SumZ: most}, api.Memory{SumR: -1000000000, SumZ: -1000000000}, low, low)
	wishes(t, 1600, api.Gain{R: most, Z: most - 1}, api.Memory{}, low, high)
	wishes(t, 1000, api.Gain{R: most, Z: most}, api.Memory{}, low, sp(api.MaxValue-1, api.MaxValue-1))
	wishes(t, 999, api.Gain{R: most, Z: most, SumR: -1}, api.Memory{SumR: 1}, low, sp(api.MaxValue-1, api.MaxValue-1))
}

// anySpan returns a span, as wide as it is far away, of numbers that are small as often as large.
func anySpan(r *rand.Rand, most int) api.Span {
	n := most>>r.Intn(40) + 1
	a, b := signed(r, r.Intn(n)), signed(r, r.Intn(n))
	return sp(min(a, b), max(a, b))
}

// 7.1, of any shape
func TestSomeWishes(t *testing.T) {
	r := rand.New(rand.NewSource(1))
	cases := map[string]int{}
	for range 20000 {
		m, _ := pair()
		m.Coils[0].MaxStep, m.Coils[1].MaxStep = api.MaxAmp, 1+r.Intn(100)
		x := api.Setup{Gains: make([]api.Gain, 2)}
		for i := range x.Gains {
			for _, n := range gainsOf(&x.Gains[i]) {
				*n = signed(r, r.Intn(1000000>>r.Intn(21)+1))
			}
		}
		g := api.Goal{R: signed(r, r.Intn(60000>>r.Intn(16)+1)), Z: signed(r, r.Intn(60000>>r.Intn(16)+1))}
		y := api.Memory{}
		if r.Intn(3) > 0 {
			y = api.Memory{SumR: signed(r, r.Intn(1000000000>>r.Intn(30)+1)), SumZ: signed(r, r.Intn(1000000000>>r.Intn(30)+1))}
		}
		s := seen(anySpan(r, api.MaxValue-60000), anySpan(r, api.MaxValue-60000))
		want := modelWish(m, x, y, g, s)
		gives(t, "Wish", want...)(control.Wish(m, x, y, g, s))
		most := r.Intn(1000000000>>r.Intn(30) + 1)
		is(t, "Remember", modelRemember(most, y, g, s))(control.Remember(most, y, g, s))
		switch n := max(want[0], -want[0]); {
		case n == 0:
			cases["nothing"]++
		case n == api.MaxAmp:
			cases["a cut"]++
		default:
			cases["a wish"]++
		}
	}
	enough(t, cases, 1000, "nothing", "a cut", "a wish")
}

// 7.1
func TestWishOfNoArguments(t *testing.T) {
	m, _ := pair()
	good := api.Setup{Gains: make([]api.Gain, 2)}
	wrong := func(what string, m api.Machine, x api.Setup, y api.Memory, g api.Goal, s api.Shape, want api.Errno) {
		t.Helper()
		if l, e := control.Wish(m, x, y, g, s); e != want || len(l) > 0 {
			t.Errorf("Wish of %s = %v, %d, not %d", what, l, e, want)
		}
	}
	wrong("no machine", api.Machine{}, api.Setup{}, api.Memory{}, api.Goal{}, api.Shape{}, api.ErrInvalid)
	wrong("no gains", m, api.Setup{}, api.Memory{}, api.Goal{}, api.Shape{}, api.ErrInvalid)
	strong := api.Setup{Gains: slices.Clone(good.Gains)}
	strong.Gains[1].SumZ = math.MinInt
	wrong("too strong a gain", m, strong, api.Memory{}, api.Goal{}, api.Shape{}, api.ErrInvalid)
	wrong("a wrong Most", m, api.Setup{Gains: good.Gains, Most: -1}, api.Memory{}, api.Goal{}, api.Shape{}, api.ErrInvalid)
	wrong("too much memory", m, good, api.Memory{SumZ: 1000000001}, api.Goal{}, api.Shape{}, api.ErrInvalid)
	wrong("a goal too far away", m, good, api.Memory{}, api.Goal{Z: 60001}, api.Shape{}, api.ErrInvalid)
	wrong("a wrong shape", m, good, api.Memory{}, api.Goal{}, api.Shape{Top: sp(2, 1)}, api.ErrInvalid)
	wrong("an error too large", m, good, api.Memory{}, api.Goal{Z: 1}, seen(sp(0, 0), sp(-api.MaxValue, 0)), api.ErrBig)
}
