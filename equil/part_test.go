package equil_test

import (
	"math"
	"math/rand"
	"slices"
	"testing"

	"shotdesk/api"
	"shotdesk/equil"
	"shotdesk/machine"
)

func TestMeet(t *testing.T) {
	m, _ := pair()
	gives(t, "Meet", box(3, 5, 2, 4)...)(equil.Meet(m, 9, box(0, 5, 2, 4), box(3, 9, 0, 9)))
	gives(t, "Meet in a number", box(5, 5, 4, 4)...)(equil.Meet(m, 9, box(0, 5, 2, 4), box(5, 9, 4, 9)))
	gives(t, "Meet of points", dots(0, 9)...)(equil.Meet(m, 9, dots(0, 9), dots(0, 9)))
	fails[api.Span](t, "Meet in one cell", api.ErrNone)(equil.Meet(m, 9, box(0, 5, 2, 4), box(5, 9, 5, 9)))
	fails[api.Span](t, "Meet in the other cell", api.ErrNone)(equil.Meet(m, 9, box(0, 5, 2, 4), box(6, 9, 4, 9)))
	fails[api.Span](t, "Meet in none", api.ErrNone)(equil.Meet(m, 9, dots(0, 0), dots(9, 9)))
}

func TestSplit(t *testing.T) {
	m, _ := pair()
	splits := func(x []api.Span, cell int, low, high []api.Span) {
		t.Helper()
		a, b, e := equil.Split(m, 9, x, cell)
		if !slices.Equal(a, low) || !slices.Equal(b, high) || e != api.OK {
			t.Errorf("Split of %v at %d = %v, %v, %d", x, cell, a, b, e)
		}
	}
	splits(box(0, 4, 3, 8), 0, box(0, 2, 3, 8), box(2, 4, 3, 8))
	splits(box(0, 4, 3, 8), 1, box(0, 4, 3, 5), box(0, 4, 5, 8))
	splits(box(0, 4, 7, 8), 1, box(0, 4, 7, 7), box(0, 4, 7, 8))
	splits(box(4, 4, 3, 8), 0, box(4, 4, 3, 8), box(4, 4, 3, 8))
	for _, cell := range append([]int{-1, 2}, wild...) {
		if a, b, e := equil.Split(m, 9, box(0, 4, 3, 8), cell); len(a)+len(b) != 0 || e != api.ErrRange {
			t.Errorf("Split at %d = %v, %v, %d", cell, a, b, e)
		}
	}
	// the halves share no memory
	a, b, _ := equil.Split(m, 9, box(0, 4, 3, 8), 0)
	a[1] = sp(9, 9)
	same(t, "the other half", b[1], sp(3, 8))
}

func TestHolds(t *testing.T) {
	x := box(3, 5, 1, 2)
	for _, a := range []struct {
		box  []api.Span
		j    []int
		want bool
	}{
		{x, []int{3, 1}, true}, {x, []int{5, 2}, true}, {x, []int{4, 2}, true},
		{x, []int{2, 1}, false}, {x, []int{6, 1}, false}, {x, []int{3, 0}, false}, {x, []int{3, 3}, false},
		{x, []int{3}, false}, {x, []int{3, 1, 1}, false}, {x, nil, false}, {nil, []int{3}, false}, {nil, nil, true},
		// any box, whether it is valid or not
		{box(5, 3, 1, 2), []int{4, 1}, false}, {box(-9, -5), []int{-7}, true}, {box(-9, -5), []int{-4}, false},
		{box(math.MinInt, math.MaxInt), []int{math.MinInt}, true}, {box(math.MinInt, math.MaxInt), []int{math.MaxInt}, true},
		{box(math.MaxInt, math.MinInt), []int{0}, false}, {box(1<<60, 1<<61), []int{1 << 60}, true}, {box(1<<60, 1<<61), []int{0}, false},
	} {
		if got := equil.Holds(a.box, a.j); got != a.want {
			t.Errorf("%v holds %v: %v", a.box, a.j, got)
		}
	}
}

func TestMirrorBox(t *testing.T) {
	m := mate(2, 3, 2, api.Point{})
	x := box(0, 1, 2, 3, 4, 5, 6, 7, 8, 9, 10, api.MaxAmp)
	gives(t, "MirrorBox", box(8, 9, 10, api.MaxAmp, 4, 5, 6, 7, 0, 1, 2, 3)...)(equil.MirrorBox(m, x))
	m = mate(3, 2, 2, api.Point{})
	gives(t, "MirrorBox", box(6, 7, 8, 9, 10, api.MaxAmp, 0, 1, 2, 3, 4, 5)...)(equil.MirrorBox(m, x))
	m = mate(6, 1, 2, api.Point{})
	gives(t, "MirrorBox of a row", x...)(equil.MirrorBox(m, x))
	m = mate(1, 6, 2, api.Point{})
	gives(t, "MirrorBox of a column", box(10, api.MaxAmp, 8, 9, 6, 7, 4, 5, 2, 3, 0, 1)...)(equil.MirrorBox(m, x))
}

// 5.4: as machine.Mirror exchanges the cells' currents
func TestMirrorBoxOfSome(t *testing.T) {
	r := rand.New(rand.NewSource(9))
	for range 300 {
		m, c, _ := some(r, 4, api.MaxAmp)
		for i := range c.Plasma {
			c.Plasma[i] = r.Intn(1000)
		}
		_, d, _ := machine.Mirror(m, c)
		gives(t, "MirrorBox", dots(d.Plasma...)...)(equil.MirrorBox(m, dots(c.Plasma...)))
	}
}
