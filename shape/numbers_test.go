package shape_test

import (
	"math/big"
	"math/rand"
	"testing"

	"shotdesk/api"
	"shotdesk/shape"
)

// centred returns a check for what Of tells.
func centred(t *testing.T, radius, height, area int) func(r, z, n int, e api.Errno) {
	t.Helper()
	return func(r, z, n int, e api.Errno) {
		t.Helper()
		if r != radius || z != height || n != area || e != api.OK {
			t.Errorf("Of = %d, %d, %d, %d, not %d, %d, %d", r, z, n, e, radius, height, area)
		}
	}
}

// 6.5
func TestOf(t *testing.T) {
	m, c := mate(api.Grid{R: -2, Z: -1, NR: 2, NZ: 2, Step: 5}, api.Point{R: 50})
	// the cells are at (-2, -1), (3, -1), (-2, 4) and (3, 4)
	centred(t, -334, 666, 4)(shape.Of(m, c, []int{1, 1, 1, 0}))
	centred(t, 1333, 666, 4)(shape.Of(m, c, []int{1, 1, 0, 1}))
	centred(t, -334, -1000, 4)(shape.Of(m, c, []int{2, 1, 0, 0}))
	centred(t, 3000, 4000, 4)(shape.Of(m, c, []int{0, 0, 0, 7}))
	centred(t, 500, 1500, 4)(shape.Of(m, c, []int{1, 1, 1, 1}))
	if r, z, n, e := shape.Of(m, c, []int{0, 0, 0, 0}); r != 0 || z != 0 || n != 0 || e != api.ErrNone {
		t.Errorf("Of nothing = %d, %d, %d, %d", r, z, n, e)
	}
	// the numbers may be so large one by one
	centred(t, 500, 1500, 4)(shape.Of(m, c, []int{api.MaxAmp, api.MaxAmp, api.MaxAmp, api.MaxAmp}))
	centred(t, 499, 1499, 4)(shape.Of(m, c, []int{api.MaxAmp, api.MaxAmp, api.MaxAmp, api.MaxAmp - 1}))
}

// 6.5: a cell is inside if its excess is above 0
func TestAreaOfNumbers(t *testing.T) {
	m, c := row()
	// the limiter point has 125,000, 125,000 and 25,000 of the cells
	centred(t, 0, 0, 1)(shape.Of(m, c, []int{7, 0, 0}))
	centred(t, 4000, 0, 1)(shape.Of(m, c, []int{0, 7, 0}))
	centred(t, 8000, 0, 2)(shape.Of(m, c, []int{0, 0, 7}))
	// of 3 and 5 the first cell has 1,000,000 like the limiter point
	centred(t, 2500, 0, 1)(shape.Of(m, c, []int{3, 5, 0}))
	centred(t, 4000, 0, 3)(shape.Of(m, c, []int{5, 5, 5}))
	// a shell at the limiter point gives it 250,000 and the cells 125,000, 125,000 and 25,000
	m, c = with(m, c, 2, 0, 0, 100)
	centred(t, 4000, 0, 0)(shape.Of(m, c, []int{5, 5, 5}))
	c.Shells[0] = -100
	centred(t, 4000, 0, 3)(shape.Of(m, c, []int{5, 5, 5}))
	// whatever the plasma of the currents
	c.Plasma = []int{0, 0, api.MaxAmp}
	centred(t, 4000, 0, 3)(shape.Of(m, c, []int{5, 5, 5}))
}

// 6.5, of any machine
func TestOfSome(t *testing.T) {
	r := rand.New(rand.NewSource(6))
	seen := map[string]int{}
	for range 2000 {
		m, c, total := some(r, 4, api.MaxAmp)
		x := model{m, c}
		j := someNumbers(r, len(c.Plasma), total)
		if r.Intn(4) == 0 {
			for i := range j {
				j[i] = r.Intn(api.MaxAmp + 1)
			}
		}
		if sum(j) == 0 {
			continue
		}
		inside, _ := x.region(dots(j...))
		if len(inside) < len(j) {
			seen["cells outside"]++
		}
		if len(inside) > 0 {
			seen["cells inside"]++
		}
		centred(t, floor(exact(x.radii(), j, 1000, sum(j))), floor(exact(x.heights(), j, 1000, sum(j))), len(inside))(shape.Of(m, c, j))
	}
	enough(t, seen, 500, "cells outside", "cells inside")
}

// floor returns a number rounded down.
func floor(a *big.Rat) int {
	return int(new(big.Int).Div(a.Num(), a.Denom()).Int64())
}
