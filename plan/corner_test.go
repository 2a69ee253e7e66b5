package plan_test

import (
	"math"
	"math/big"
	"math/rand"
	"testing"

	"shotdesk/api"
	"shotdesk/plan"
)

// 9.1
func TestValidCorners(t *testing.T) {
	for what, l := range map[string][]api.Corner{
		"a corner": corners(0, 0), "a large one": corners(0, api.MaxAmp), "a small one": corners(0, -api.MaxAmp), "two": corners(0, 5, 1, -5), "one at the end": corners(0, 5, 400, 7),
		"two at the end": corners(0, 5, 399, 7, 400, 7), "32": manyCorners(32), "the largest jump": corners(0, -api.MaxAmp, 1, api.MaxAmp), "the chapter's": corners(0, 0, 10, 100, 20, 50),
	} {
		same(t, "ValidCorners of "+what, plan.ValidCorners(l), true)
	}
	for what, l := range wrongCorners() {
		same(t, "ValidCorners of "+what, plan.ValidCorners(l), false)
		for _, tick := range []int{0, 1, 3, 400, -1, math.MaxInt} {
			same(t, "Value of "+what, plan.Value(l, tick), 0)
		}
		same(t, "Rises of "+what, plan.Rises(l), 0)
	}
}

// the chapter's example
func TestExample(t *testing.T) {
	l := corners(0, 0, 10, 100, 20, 50)
	for tick, want := range map[int]int{0: 0, 1: 10, 10: 100, 11: 95, 20: 50} {
		same(t, "Value", plan.Value(l, tick), want)
	}
	same(t, "Rises", plan.Rises(l), 10)
}

// 9.1 and Details
func TestValue(t *testing.T) {
	for _, c := range []struct {
		l     []api.Corner
		ticks map[int]int
	}{
		{corners(0, 7), map[int]int{0: 7, 1: 7, 400: 7, 401: 7, math.MaxInt: 7, -1: 0, math.MinInt: 0}},
		{corners(0, 0, 3, 10), map[int]int{-5: 0, 0: 0, 1: 3, 2: 6, 3: 10, 4: 10, 1000: 10, math.MaxInt: 10}},
		// rounded down also where it falls, and below 0
		{corners(0, 10, 3, 0), map[int]int{0: 10, 1: 6, 2: 3, 3: 0, 4: 0}},
		{corners(0, 0, 3, -10), map[int]int{1: -4, 2: -7, 3: -10, 4: -10}},
		{corners(0, -10, 3, 0), map[int]int{-1: 0, 0: -10, 1: -7, 2: -4, 3: 0}},
		{corners(0, 1, 2, 0, 4, 1, 6, -2), map[int]int{1: 0, 2: 0, 3: 0, 4: 1, 5: -1, 6: -2}},
		{corners(0, 5, 400, 4), map[int]int{0: 5, 1: 4, 399: 4, 400: 4}},
		{corners(0, 4, 400, 5), map[int]int{0: 4, 1: 4, 399: 4, 400: 5, 401: 5}},
		{corners(0, -api.MaxAmp, 399, api.MaxAmp, 400, -api.MaxAmp), map[int]int{1: -994988, 199: -2507, 200: 2506, 398: 994987, 399: api.MaxAmp, 400: -api.MaxAmp, 500: -api.MaxAmp}},
	} {
		for tick, want := range c.ticks {
			if got := plan.Value(c.l, tick); got != want {
				t.Errorf("Value of %v at %d = %d, not %d", c.l, tick, got, want)
			}
		}
	}
}

// modelValue is the chapter's words, in fractions.
func modelValue(l []api.Corner, t int) int {
	for i, to := range l {
		if i == 0 || t >= to.At {
			continue
		}
		from := l[i-1]
		// rounding v plus the quotient down is v plus the quotient rounded down
		exact := big.NewRat(int64(to.Value-from.Value), int64(to.At-from.At))
		exact.Mul(exact, big.NewRat(int64(t-from.At), 1))
		floor := new(big.Int)
		floor.Div(exact.Num(), exact.Denom())
		return from.Value + int(floor.Int64())
	}
	return l[len(l)-1].Value
}

// risesBy reports whether corners rise by at most s in a tick, in the chapter's words.
func risesBy(l []api.Corner, s int) bool {
	for i := 1; i < len(l); i++ {
		rise := l[i].Value - l[i-1].Value
		if max(rise, -rise) > s*(l[i].At-l[i-1].At) {
			return false
		}
	}
	return true
}

func someCorners(r *rand.Rand) []api.Corner {
	most := []int{3, 100, api.MaxAmp}[r.Intn(3)]
	var l []api.Corner
	for _, at := range someTicks(r, 1+r.Intn(8), []int{9, 60, 400}[r.Intn(3)]) {
		l = append(l, api.Corner{At: at, Value: r.Intn(2*most+1) - most})
	}
	return l
}

// 9.1, P9.2
func TestRandomCorners(t *testing.T) {
	r := rand.New(rand.NewSource(3))
	for range 3000 {
		l := someCorners(r)
		rises := plan.Rises(l)
		if !risesBy(l, rises) || rises > 0 && risesBy(l, rises-1) || rises < 0 {
			t.Errorf("Rises of %v = %d", l, rises)
		}
		last := l[len(l)-1].At
		for tick := range last + 3 {
			got := plan.Value(l, tick)
			if want := modelValue(l, tick); got != want {
				t.Fatalf("Value of %v at %d = %d, not %d", l, tick, got, want)
			}
			change := plan.Value(l, tick+1) - got
			if max(change, -change) > rises {
				t.Errorf("%v changes by %d from the tick %d, more than %d", l, change, tick, rises)
			}
		}
	}
}

// 9.1 and Details
func TestRises(t *testing.T) {
	for want, lists := range map[int][][]api.Corner{
		0:              {corners(0, 0), corners(0, api.MaxAmp), corners(0, 5, 3, 5, 400, 5)},
		1:              {corners(0, 0, 1, 1), corners(0, 0, 1, -1), corners(0, 0, 400, 1), corners(0, 0, 400, -400), corners(0, 3, 5, 3, 7, 2)},
		2:              {corners(0, 0, 2, 3), corners(0, 0, 2, 4), corners(0, 0, 400, 401), corners(0, 0, 400, -401), corners(0, 5, 3, 0), corners(0, 0, 1, 1, 3, -2)},
		25:             {corners(0, 0, 4, -100, 10, 50), corners(0, 0, 6, 150, 7, 150)},
		2 * api.MaxAmp: {corners(0, -api.MaxAmp, 1, api.MaxAmp), corners(0, 0, 399, api.MaxAmp, 400, -api.MaxAmp)},
		5000:           {corners(0, -api.MaxAmp, 400, api.MaxAmp)},
	} {
		for _, l := range lists {
			same(t, "Rises", plan.Rises(l), want)
		}
	}
}
