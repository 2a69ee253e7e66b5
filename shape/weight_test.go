package shape_test

import (
	"math/rand"
	"testing"

	"shotdesk/api"
	"shotdesk/shape"
)

// Example
func TestTwoCells(t *testing.T) {
	m, _ := two()
	x := box(3, 7, 3, 7)
	is(t, "Weighted", sp(6, 14))(shape.Weighted(m, 10, x, []int{0, 2}))
	is(t, "Radius", sp(600, 1400))(shape.Radius(m, 10, x))
	is(t, "Height", sp(0, 0))(shape.Height(m, 10, x))
}

// 6.1
func TestWeighted(t *testing.T) {
	m, _ := row()
	// of the total 10, 7 are left when each cell has its Lo: 5 and 2 for the first cells, or all for the last one
	x := box(0, 5, 2, 4, 1, 9)
	for _, a := range []struct {
		total int
		x     []api.Span
		w     []int
		want  api.Span
	}{
		{10, x, []int{1, 10, 100}, sp(5*1+4*10+1*100, 2*10+8*100)},
		{10, x, []int{100, 10, 1}, sp(2*10+8*1, 5*100+4*10+1*1)},
		{10, x, []int{10, 1, 100}, sp(5*10+4*1+1*100, 2*1+8*100)},
		{10, x, []int{-1, -10, -100}, sp(-2*10-8*100, -5*1-4*10-1*100)},
		{10, x, []int{-3, 0, 3}, sp(-5*3+1*3, 8*3)},
		{10, x, []int{0, 0, 0}, sp(0, 0)},
		{10, x, []int{7, 7, 7}, sp(70, 70)},
		{10, x, []int{7, 7, 8}, sp(71, 78)},
		{10, x, []int{8, 7, 7}, sp(70, 75)},
		{18, x, []int{1, 10, 100}, sp(5*1+4*10+9*100, 5*1+4*10+9*100)},
		{17, x, []int{1, 10, 100}, sp(5*1+4*10+8*100, 4*1+4*10+9*100)},
		{3, box(0, 3, 2, 3, 1, 3), []int{1, 10, 100}, sp(2*10+1*100, 2*10+1*100)},
		{4, box(0, 3, 2, 3, 1, 3), []int{1, 10, 100}, sp(1*1+2*10+1*100, 2*10+2*100)},
		{12, dots(3, 4, 5), []int{2, 3, 5}, sp(43, 43)},
	} {
		is(t, "Weighted", a.want)(shape.Weighted(m, a.total, a.x, a.w))
	}
	none[api.Span](t, "Weighted of too little", api.ErrNone)(shape.Weighted(m, 19, x, []int{1, 2, 3}))
	none[api.Span](t, "Weighted of too much", api.ErrNone)(shape.Weighted(m, 9, box(0, 9, 2, 9, 8, 9), []int{1, 2, 3}))
}

// 6.1: weights are from -10^9 to 10^9, with which the sum is never more than MaxValue
func TestGreatestWeights(t *testing.T) {
	m, _ := two()
	all := box(0, api.MaxAmp, 0, api.MaxAmp)
	is(t, "Weighted", sp(-api.MaxValue, api.MaxValue))(shape.Weighted(m, api.MaxAmp, all, []int{1000000000, -1000000000}))
	is(t, "Weighted", sp(api.MaxValue, api.MaxValue))(shape.Weighted(m, api.MaxAmp, all, []int{1000000000, 1000000000}))
	for _, n := range append([]int{-1000000001, 1000000001}, wild...) {
		none[api.Span](t, "Weighted", api.ErrRange)(shape.Weighted(m, api.MaxAmp, all, []int{n, 0}))
		none[api.Span](t, "Weighted", api.ErrRange)(shape.Weighted(m, api.MaxAmp, all, []int{0, n}))
	}
}

// 6.1: rounded outward, on both sides of 0
func TestCentre(t *testing.T) {
	m, _ := mate(api.Grid{R: -2, Z: -1, NR: 2, NZ: 2, Step: 5}, api.Point{})
	// the cells are at (-2, -1), (3, -1), (-2, 4) and (3, 4)
	for _, a := range []struct {
		x              []api.Span
		radius, height api.Span
	}{
		{dots(1, 1, 1, 0), sp(-334, -333), sp(666, 667)},
		{dots(1, 1, 0, 1), sp(1333, 1334), sp(666, 667)},
		{dots(2, 1, 0, 0), sp(-334, -333), sp(-1000, -1000)},
		{dots(0, 0, 0, 3), sp(3000, 3000), sp(4000, 4000)},
		{box(0, 3, 0, 3, 0, 3, 0, 3), sp(-2000, 3000), sp(-1000, 4000)},
		{box(1, 3, 0, 3, 0, 0, 0, 0), sp(-2000, 1334), sp(-1000, -1000)},
		{box(1, 3, 0, 1, 0, 2, 0, 1), sp(-2000, 1334), sp(-1000, 2334)},
	} {
		is(t, "Radius", a.radius)(shape.Radius(m, 3, a.x))
		is(t, "Height", a.height)(shape.Height(m, 3, a.x))
	}
	for _, x := range [][]api.Span{box(0, 1, 0, 1, 0, 0, 0, 0), box(1, 3, 1, 3, 1, 3, 1, 3)} {
		none[api.Span](t, "Radius", api.ErrNone)(shape.Radius(m, 3, x))
		none[api.Span](t, "Height", api.ErrNone)(shape.Height(m, 3, x))
	}
	// the farthest places and the greatest total
	m, _ = mate(api.Grid{R: -60, Z: 60, NR: 1, NZ: 1, Step: 1}, api.Point{})
	is(t, "Radius", sp(-60000, -60000))(shape.Radius(m, api.MaxAmp, dots(api.MaxAmp)))
	is(t, "Height", sp(60000, 60000))(shape.Height(m, api.MaxAmp, dots(api.MaxAmp)))
}

// 6.1
func TestLift(t *testing.T) {
	m, c := two()
	// a current of 1 at (0, 2) gives (0, 1) the flux 200,000 and (0, -1) the flux 76,923, which makes 123,077; (2, 1) and (2, -1) have 111,111 - 58,823
	m, c = with(m, c, 0, 2, 3, 5)
	is(t, "Lift", sp(15*123077*10/1000000, 15*123077*10/1000000+1))(shape.Lift(m, c, 10, dots(10, 0)))
	is(t, "Lift", sp(15*52288*10/1000000, 15*52288*10/1000000+1))(shape.Lift(m, c, 10, dots(0, 10)))
	is(t, "Lift", sp(15*(123077*3+52288*7)/1000000, 15*(123077*7+52288*3)/1000000+1))(shape.Lift(m, c, 10, box(3, 7, 3, 7)))
	// with the other sign
	c.Coils[0] = -5
	is(t, "Lift", sp(-15*(123077*7+52288*3)/1000000-1, -15*(123077*3+52288*7)/1000000))(shape.Lift(m, c, 10, box(3, 7, 3, 7)))
	// a shell counts likewise, without turns
	m, c = with(m, c, 0, 2, 0, 15)
	is(t, "Lift", sp(0, 0))(shape.Lift(m, c, 10, box(3, 7, 3, 7)))
	c.Shells[0] = 16
	is(t, "Lift", sp(0, 2))(shape.Lift(m, c, 10, box(0, 10, 0, 10)))
	// whole quotients are not rounded: 1,000,000 times 52,288 is 52,288 times the unit
	c.Coils[0], c.Shells[0] = 0, 1
	is(t, "Lift", sp(52288, 123077))(shape.Lift(m, c, 1000000, box(0, 1000000, 0, 1000000)))
	c.Shells[0] = -1
	is(t, "Lift", sp(-123077, -52288))(shape.Lift(m, c, 1000000, box(0, 1000000, 0, 1000000)))
	none[api.Span](t, "Lift", api.ErrNone)(shape.Lift(m, c, 10, box(0, 4, 0, 5)))
	none[api.Span](t, "Lift", api.ErrNone)(shape.Lift(m, c, 10, box(5, 10, 6, 10)))
}

// 6.1: the plasma has no part in its lift, wherever the currents say that it is
func TestLiftOfAnyPlasma(t *testing.T) {
	m, c := mate(api.Grid{NR: 1, NZ: 2, Step: 1}, api.Point{R: 9})
	m, c = with(m, c, 0, 5, 0, 1000)
	want, _ := shape.Lift(m, c, 10, box(0, 10, 0, 10))
	for _, plasma := range [][]int{{0, 10}, {10, 0}, {0, api.MaxAmp}, {api.MaxAmp, 0}} {
		c.Plasma = plasma
		is(t, "Lift", want)(shape.Lift(m, c, 10, box(0, 10, 0, 10)))
	}
}

// 6.1: the sums of the greatest lifts are too long for 64 bits
func TestGreatestLifts(t *testing.T) {
	r := rand.New(rand.NewSource(1))
	m, c := great()
	all := make([]api.Span, 64)
	for i := range all {
		all[i] = sp(0, api.MaxAmp)
	}
	// the cells below and above the coils: 125,000 for each of 12 * 100 * 1,000,000 and 16 * 1,000,000 amperes
	const far = 125000 * (12*100 + 16) * 1000000
	is(t, "Lift", sp(-far, far))(shape.Lift(m, c, api.MaxAmp, all))
	for range 200 {
		for _, list := range [][]int{c.Coils, c.Shells} {
			for i := range list {
				list[i] = r.Intn(2*api.MaxAmp+1) - api.MaxAmp
			}
		}
		total := api.MaxAmp - r.Intn(1000)
		b := someBox(r, 64, total, r.Intn(total))
		want, ok := weighted(total, b, model{m, c}.lifts(), 1, 1000000)
		if !ok {
			none[api.Span](t, "Lift", api.ErrNone)(shape.Lift(m, c, total, b))
			continue
		}
		is(t, "Lift", want)(shape.Lift(m, c, total, b))
	}
}

// 6.1, of any machine
func TestWeightedOfSome(t *testing.T) {
	r := rand.New(rand.NewSource(2))
	seen := map[string]int{}
	for range 2000 {
		m, c, total := some(r, 4, api.MaxAmp)
		x := model{m, c}
		b := someBox(r, len(c.Plasma), total, total>>r.Intn(12))
		w := make([]int, len(b))
		for i := range w {
			w[i] = (r.Intn(2000000001) - 1000000000) >> r.Intn(31)
		}
		if checkWeighted(t, x, total, b, w) {
			seen["with a distribution"]++
		} else {
			seen["without"]++
		}
	}
	enough(t, seen, 50, "with a distribution", "without")
}

// checkWeighted holds all that is weighted against the model, and reports whether there is a distribution.
func checkWeighted(t *testing.T, x model, total int, b []api.Span, w []int) bool {
	t.Helper()
	plain, ok := weighted(total, b, w, 1, 1)
	radius, _ := weighted(total, b, x.radii(), 1000, total)
	height, _ := weighted(total, b, x.heights(), 1000, total)
	lift, _ := weighted(total, b, x.lifts(), 1, 1000000)
	check := is[api.Span]
	if !ok {
		check = func(t *testing.T, call string, _ api.Span) func(api.Span, api.Errno) {
			return none[api.Span](t, call, api.ErrNone)
		}
	}
	check(t, "Weighted", plain)(shape.Weighted(x.m, total, b, w))
	check(t, "Radius", radius)(shape.Radius(x.m, total, b))
	check(t, "Height", height)(shape.Height(x.m, total, b))
	check(t, "Lift", lift)(shape.Lift(x.m, x.c, total, b))
	return ok
}
