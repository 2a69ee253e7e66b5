package shape_test

import (
	"math/big"
	"slices"

	"shotdesk/api"
)

// A model follows the chapter's words, in numbers without bounds where sums are long.
type model struct {
	m api.Machine
	c api.Currents
}

func influence(a, b api.Point) int {
	return 1000000 / (4 + (a.R-b.R)*(a.R-b.R) + (a.Z-b.Z)*(a.Z-b.Z))
}

func (x model) cells() []api.Point {
	var list []api.Point
	g := x.m.Grid
	for z := range g.NZ {
		for r := range g.NR {
			list = append(list, api.Point{R: g.R + r*g.Step, Z: g.Z + z*g.Step})
		}
	}
	return list
}

func (x model) known(p api.Point) int {
	sum := 0
	for i, coil := range x.m.Coils {
		sum += influence(p, api.Point{R: coil.R, Z: coil.Z}) * coil.Turns * x.c.Coils[i]
	}
	for i, shell := range x.m.Shells {
		sum += influence(p, api.Point{R: shell.R, Z: shell.Z}) * x.c.Shells[i]
	}
	return sum
}

// radii, heights and lifts are weights.
func (x model) radii() []int {
	var w []int
	for _, p := range x.cells() {
		w = append(w, p.R)
	}
	return w
}

func (x model) heights() []int {
	var w []int
	for _, p := range x.cells() {
		w = append(w, p.Z)
	}
	return w
}

func (x model) lifts() []int {
	var w []int
	for _, p := range x.cells() {
		w = append(w, x.known(api.Point{R: p.R, Z: p.Z + 1})-x.known(api.Point{R: p.R, Z: p.Z - 1}))
	}
	return w
}

// fluxes returns the spans of the flux at some places.
func (x model) fluxes(b []api.Span, l []api.Point) []api.Span {
	var list []api.Span
	for _, p := range l {
		flux := sp(x.known(p), x.known(p))
		for i, cell := range x.cells() {
			flux.Lo += influence(p, cell) * b[i].Lo
			flux.Hi += influence(p, cell) * b[i].Hi
		}
		list = append(list, flux)
	}
	return list
}

// most returns the greatest lower end and the greatest upper end of some spans, of which there is one.
func most(l []api.Span) api.Span {
	a := l[0]
	for _, b := range l {
		a = sp(max(a.Lo, b.Lo), max(a.Hi, b.Hi))
	}
	return a
}

func (x model) sides(b []api.Span) []api.Truth {
	edge := most(x.fluxes(b, x.m.Limits))
	var list []api.Truth
	for _, flux := range x.fluxes(b, x.cells()) {
		switch {
		case flux.Lo > edge.Hi:
			list = append(list, api.Yes)
		case flux.Hi <= edge.Lo:
			list = append(list, api.No)
		default:
			list = append(list, api.Maybe)
		}
	}
	return list
}

// region returns the places of the cells that are surely inside, and of those that are on the rim.
func (x model) region(b []api.Span) (sure, rim []api.Point) {
	sides := x.sides(b)
	for i, p := range x.cells() {
		switch sides[i] {
		case api.Yes:
			sure = append(sure, p)
		case api.Maybe:
			rim = append(rim, p)
		}
	}
	return sure, rim
}

// extent returns the top, the bottom, the inner and the outer span of a region.
func extent(sure, rim []api.Point) [4]api.Span {
	all := slices.Concat(sure, rim)
	reach := func(l []api.Point, coordinate func(api.Point) int) (least, greatest int) {
		var list []int
		for _, p := range l {
			list = append(list, coordinate(p))
		}
		return slices.Min(list), slices.Max(list)
	}
	bottom, top := reach(sure, func(p api.Point) int { return p.Z })
	lower, upper := reach(all, func(p api.Point) int { return p.Z })
	inner, outer := reach(sure, func(p api.Point) int { return p.R })
	nearer, farther := reach(all, func(p api.Point) int { return p.R })
	return [4]api.Span{sp(top, upper), sp(lower, bottom), sp(nearer, inner), sp(outer, farther)}
}

// clearance returns how far each limiter point's flux is below the greatest one at the others.
func (x model) clearance(b []api.Span) []api.Span {
	fluxes := x.fluxes(b, x.m.Limits)
	var list []api.Span
	for i, own := range fluxes {
		var others []api.Span
		for k, flux := range fluxes {
			if k != i {
				others = append(others, flux)
			}
		}
		var a api.Span
		if len(others) > 0 {
			a = sp(max(0, most(others).Lo-own.Hi), max(0, most(others).Hi-own.Lo))
		}
		list = append(list, a)
	}
	return list
}

func (x model) axis(b []api.Span) []int {
	fluxes := x.fluxes(b, x.cells())
	var list []int
	for i, flux := range fluxes {
		if flux.Hi >= most(fluxes).Lo {
			list = append(list, i)
		}
	}
	return list
}

// weighted returns the weighted span, times n, divided by d and rounded outward, and whether there is a distribution.
func weighted(total int, b []api.Span, w []int, n, d int) (api.Span, bool) {
	low, high := 0, 0
	var opposite []int
	for i, a := range b {
		low, high = low+a.Lo, high+a.Hi
		opposite = append(opposite, -w[i])
	}
	if low > total || high < total {
		return api.Span{}, false
	}
	return sp(down(leastSum(total, b, w), n, d), -down(leastSum(total, b, opposite), n, d)), true
}

// leastSum gives each cell its Lo, and what is left of the total to the cells in ascending order of weight.
func leastSum(total int, b []api.Span, w []int) *big.Int {
	sum := new(big.Int)
	give := func(i, n int) {
		sum.Add(sum, new(big.Int).Mul(big.NewInt(int64(w[i])), big.NewInt(int64(n))))
		total -= n
	}
	for i, a := range b {
		give(i, a.Lo)
	}
	for _, weight := range slices.Compact(slices.Sorted(slices.Values(w))) {
		for i, a := range b {
			if w[i] == weight {
				give(i, min(total, a.Hi-a.Lo))
			}
		}
	}
	return sum
}

// down returns sum * n / d, rounded down.
func down(sum *big.Int, n, d int) int {
	sum.Mul(sum, big.NewInt(int64(n)))
	// Div rounds down where the divisor is above 0
	return int(sum.Div(sum, big.NewInt(int64(d))).Int64())
}

// exact returns the sum of weight times number, times n, divided by d.
func exact(w, j []int, n, d int) *big.Rat {
	sum := new(big.Int)
	for i, weight := range w {
		sum.Add(sum, new(big.Int).Mul(big.NewInt(int64(weight)), big.NewInt(int64(j[i]))))
	}
	sum.Mul(sum, big.NewInt(int64(n)))
	return new(big.Rat).SetFrac(sum, big.NewInt(int64(d)))
}

// between reports whether a number lies between the ends of a span.
func between(n *big.Rat, a api.Span) bool {
	return n.Cmp(big.NewRat(int64(a.Lo), 1)) >= 0 && n.Cmp(big.NewRat(int64(a.Hi), 1)) <= 0
}

// quantitiesOf returns what bounds are about, by their kinds, exactly of whole numbers with some cell inside.
func (x model) quantitiesOf(j []int) map[int]*big.Rat {
	inside, _ := x.region(dots(j...))
	e := extent(inside, nil)
	whole := func(n int) *big.Rat { return big.NewRat(int64(n), 1) }
	return map[int]*big.Rat{
		api.BRadius: exact(x.radii(), j, 1000, sum(j)),
		api.BHeight: exact(x.heights(), j, 1000, sum(j)),
		api.BArea:   whole(len(inside)),
		api.BTop:    whole(e[0].Lo),
		api.BBottom: whole(e[1].Lo),
		api.BInner:  whole(e[2].Lo),
		api.BOuter:  whole(e[3].Lo),
		api.BLift:   exact(x.lifts(), j, 1, 1000000),
	}
}
