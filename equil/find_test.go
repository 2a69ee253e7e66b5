package equil_test

import (
	"math/rand"
	"testing"

	"shotdesk/api"
	"shotdesk/equil"
	"shotdesk/machine"
)

// Example: for a total from 6 on, Find returns the span of the total alone
func TestFindOfOneCell(t *testing.T) {
	m, c := single(0)
	for _, total := range []int{6, 7, 100, api.MaxAmp} {
		gives(t, "Find", sp(total, total))(equil.Find(m, c, total))
	}
	for total := 1; total < 6; total++ {
		fails[api.Span](t, "Find", api.ErrNone)(equil.Find(m, c, total))
	}
	// with 10 in the shell the even start has no round: the cell has 250,000 + 344,820, the limiter point 200,000 + 500,000
	m, c = single(10)
	fails[api.Span](t, "Find", api.ErrNone)(equil.Find(m, c, 1))
}

// mate is a machine with some cells and limiter points alone.
func mate(nr, nz, step int, limits ...api.Point) api.Machine {
	return api.Machine{Name: "mate", Limits: limits, Grid: api.Grid{NR: nr, NZ: nz, Step: step}}
}

// with adds a coil and its current, or a shell and its current.
func with(m api.Machine, c api.Currents, r, z, turns, current int) (api.Machine, api.Currents) {
	if turns == 0 {
		m.Shells = append(m.Shells, api.Shell{R: r, Z: z, Self: 1, Loss: 1})
		c.Shells = append(c.Shells, current)
		return m, c
	}
	name := "c" + string('0'+rune(len(m.Coils)))
	m.Coils = append(m.Coils, api.Coil{Name: name, R: r, Z: z, Turns: turns, MaxCurrent: 1, MaxStep: 1, MaxHeat: 1})
	c.Coils = append(c.Coils, current)
	return m, c
}

// Each of these is another one, or none, if Find goes on for one time more or less.
func TestFindGoesOnSoLong(t *testing.T) {
	m := mate(4, 1, 9, api.Point{R: 29, Z: 16}, api.Point{R: 17, Z: 4}, api.Point{R: 31, Z: -2}, api.Point{R: 41, Z: 1})
	gives(t, "Find with 60 rounds", box(0, 0, 4526, 4546, 0, 20, 0, 0)...)(equil.Find(m, machine.Quiet(m), 4546))

	m = mate(3, 1, 3, api.Point{R: -10, Z: -2})
	m, c := with(m, machine.Quiet(m), -11, 1, 0, -188)
	gives(t, "Find with 20 looks", box(17, 301, 22, 314, 19, 304)...)(equil.Find(m, c, 374))
	m = mate(4, 1, 10, api.Point{R: 40, Z: -9})
	m, c = with(m, machine.Quiet(m), 43, -17, 3, -81)
	gives(t, "Find with no more than 20 looks", box(6, 46, 6, 47, 6, 46, 5, 44)...)(equil.Find(m, c, 81))

	m = mate(2, 2, 2, api.Point{R: 7, Z: 5}, api.Point{R: -9, Z: -3})
	m, c = with(m, machine.Quiet(m), 1, 0, 0, 3102)
	gives(t, "Find narrowed 20 times", box(327, 3202, 327, 3202, 125, 2757, 125, 2757)...)(equil.Find(m, c, 4427))

	m = mate(1, 2, 2, api.Point{R: -6}, api.Point{R: -7, Z: -4})
	m, c = with(m, machine.Quiet(m), 3, -2, 2, 14372)
	m, c = with(m, c, 37, 6, 3, -19250)
	m, c = with(m, c, 42, 3, 0, 24289)
	gives(t, "Find with the width 16,384", box(1276, 24876, 0, 23600)...)(equil.Find(m, c, 24876))
	m = mate(3, 1, 7, api.Point{R: 28, Z: 5}, api.Point{R: 26, Z: -9})
	m, c = with(m, machine.Quiet(m), 32, -4, 3, -29834)
	fails[api.Span](t, "Find with the width 32,768", api.ErrNone)(equil.Find(m, c, 67242))
}

func TestFindOfSome(t *testing.T) {
	r := rand.New(rand.NewSource(5))
	seen := map[string]int{}
	for range 1200 {
		m, c, total := some(r, 3, api.MaxAmp)
		x := model{m, c, total}
		want, ok := x.find()
		if !ok {
			fails[api.Span](t, "Find", api.ErrNone)(equil.Find(m, c, total))
			seen["none"]++
			continue
		}
		gives(t, "Find", want...)(equil.Find(m, c, total))
		if len(want) > 1 {
			seen["of several cells"]++
		}
		if low, _ := ends(want); sum(low) < total {
			seen["wider than a point"]++
		}
	}
	enough(t, seen, 20, "none", "of several cells", "wider than a point")
}

func sum(j []int) int {
	n := 0
	for _, x := range j {
		n += x
	}
	return n
}

// Details: a round that is none on the way is ErrNone. The shell leaves the even start an excess in the first cell, which gets all then, and has none.
func TestFindWithoutARound(t *testing.T) {
	m := mate(2, 1, 1, api.Point{})
	m.Grid.R = 1
	m, c := with(m, machine.Quiet(m), 2, 0, 0, -73)
	gives(t, "Round", 100, 0)(equil.Round(m, c, 100, equil.Even(2, 100)))
	fails[int](t, "Round", api.ErrNone)(equil.Round(m, c, 100, []int{100, 0}))
	fails[api.Span](t, "Find", api.ErrNone)(equil.Find(m, c, 100))
}

func TestNarrow(t *testing.T) {
	m, c := pair()
	gives(t, "Narrow, not at all", box(3, 5, 1, 2)...)(equil.Narrow(m, c, 6, box(3, 5, 1, 2), 0))
	gives(t, "Narrow, not at all, without an image", box(0, 6, 0, 6)...)(equil.Narrow(m, c, 6, box(0, 6, 0, 6), 0))
	gives(t, "Narrow within the image", box(3, 5, 1, 2)...)(equil.Narrow(m, c, 6, box(3, 5, 1, 2), 1))
	for n, low := range []int{3, 4, 6, 8, 9, 9} {
		gives(t, "Narrow step by step", box(0, 0, low, 10)...)(equil.Narrow(m, c, 10, box(0, 0, 3, 10), n))
	}
	gives(t, "Narrow till nothing changes", box(0, 0, 9, 10)...)(equil.Narrow(m, c, 10, box(0, 0, 3, 10), 1000))
	for n, low := range []int{3, 5, 8, 9} {
		gives(t, "Narrow step by step", box(0, 0, low, 9)...)(equil.Narrow(m, c, 10, box(0, 0, 3, 9), n))
	}
	fails[api.Span](t, "Narrow to nothing in the end", api.ErrNone)(equil.Narrow(m, c, 10, box(0, 0, 3, 9), 4))
	fails[api.Span](t, "Narrow without an image", api.ErrNone)(equil.Narrow(m, c, 6, box(0, 6, 0, 6), 1))
	// the image is 7..8 and 2..3
	fails[api.Span](t, "Narrow to nothing", api.ErrNone)(equil.Narrow(m, c, 10, dots(3, 1), 1))
	fails[api.Span](t, "Narrow to nothing", api.ErrNone)(equil.Narrow(m, c, 10, box(3, 3, 1, 3), 1))
	for _, n := range []int{1, 2, 1000} {
		gives(t, "Narrow of what stays", dots(5, 5)...)(equil.Narrow(m, c, 10, dots(5, 5), n))
	}
	for _, n := range append([]int{-1, 1001}, wild...) {
		fails[api.Span](t, "Narrow any number of times", api.ErrRange)(equil.Narrow(m, c, 10, dots(5, 5), n))
	}
}

func TestNarrowOfSome(t *testing.T) {
	r := rand.New(rand.NewSource(7))
	seen := map[string]int{}
	for range 3000 {
		m, c, total := some(r, 3, api.MaxAmp)
		x, n := model{m, c, total}, r.Intn(6)
		b := someBox(r, someNumbers(r, len(c.Plasma), total), total, total>>r.Intn(12))
		_, imaged := x.image(b)
		want, ok := x.narrow(b, n)
		if !ok {
			fails[api.Span](t, "Narrow", api.ErrNone)(equil.Narrow(m, c, total, b, n))
		} else {
			gives(t, "Narrow", want...)(equil.Narrow(m, c, total, b, n))
		}
		switch {
		case !imaged:
			seen["without an image"]++
		case !ok:
			seen["narrowed to nothing"]++
		case !inside(b, want):
			seen["narrowed"]++
		}
	}
	enough(t, seen, 50, "without an image", "narrowed to nothing", "narrowed")
}

func TestMisses(t *testing.T) {
	m, c := pair()
	// the image is 2..6 and 0..4
	is(t, "Misses of none", -1)(equil.Misses(m, c, 6, box(3, 5, 1, 2)))
	is(t, "Misses of none", -1)(equil.Misses(m, c, 10, dots(5, 5)))
	// the image is 7..8 and 2..3
	is(t, "Misses of both", 0)(equil.Misses(m, c, 10, dots(3, 1)))
	// the image is 0..0 and 10..10
	is(t, "Misses of the second", 1)(equil.Misses(m, c, 10, dots(0, 9)))
	// the images are 7..8 and 2..3, and 6..7 and 3..4
	is(t, "Misses of none", -1)(equil.Misses(m, c, 10, dots(7, 2)))
	is(t, "Misses of none", -1)(equil.Misses(m, c, 10, dots(7, 3)))
	is0(t, "Misses without an image", api.ErrNone)(equil.Misses(m, c, 6, box(0, 6, 0, 6)))
	is0(t, "Misses without an image", api.ErrNone)(equil.Misses(m, c, 6, dots(0, 0)))
}

func TestMissesOfSome(t *testing.T) {
	r := rand.New(rand.NewSource(8))
	seen := map[int]int{}
	for range 3000 {
		m, c, total := some(r, 3, api.MaxAmp)
		x := model{m, c, total}
		b := someBox(r, someNumbers(r, len(c.Plasma), total), total, total>>r.Intn(12))
		image, ok := x.image(b)
		if !ok {
			is0(t, "Misses", api.ErrNone)(equil.Misses(m, c, total, b))
			continue
		}
		want := -1
		for i := len(b) - 1; i >= 0; i-- {
			if image[i].Hi < b[i].Lo || image[i].Lo > b[i].Hi {
				want = i
			}
		}
		is(t, "Misses", want)(equil.Misses(m, c, total, b))
		seen[want]++
	}
	if seen[-1] < 50 || seen[0] < 50 || seen[1] < 50 || seen[2] < 10 {
		t.Errorf("too few cases: %v", seen)
	}
}
