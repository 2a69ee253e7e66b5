package shape

import (
	"cmp"
	"slices"

	"shotdesk/api"
	"shotdesk/equil"
	"shotdesk/machine"
	"shotdesk/span"
)

const (
	maxWeight   = 1000000000
	thousandths = 1000    // of a coordinate
	liftUnit    = 1000000 // what a lift is told in
)

// Weighted returns the weighted span of a box.
func Weighted(m api.Machine, total int, x []api.Span, w []int) (api.Span, api.Errno) {
	if e := check(equil.ValidBox(m, total, x) && len(w) == len(x), total); e != api.OK {
		return api.Span{}, e
	}
	if slices.ContainsFunc(w, func(n int) bool { return !within(n, -maxWeight, maxWeight) }) {
		return api.Span{}, api.ErrRange
	}
	return weighted(total, x, w, 1)
}

// Radius returns the span of the centre's R in thousandths.
func Radius(m api.Machine, total int, x []api.Span) (api.Span, api.Errno) {
	return centre(m, total, x, inR)
}

// Height returns the span of the centre's Z in thousandths.
func Height(m api.Machine, total int, x []api.Span) (api.Span, api.Errno) {
	return centre(m, total, x, inZ)
}

func inR(p api.Point) int { return thousandths * p.R }

func inZ(p api.Point) int { return thousandths * p.Z }

// centre returns the span of the mean of what weight tells of the cells' places.
func centre(m api.Machine, total int, x []api.Span, weight func(api.Point) int) (api.Span, api.Errno) {
	if e := check(equil.ValidBox(m, total, x), total); e != api.OK {
		return api.Span{}, e
	}
	return weighted(total, x, weights(m, weight), total)
}

// Lift returns the span of the vertical force that coils and shells have on the plasma.
func Lift(m api.Machine, c api.Currents, total int, x []api.Span) (api.Span, api.Errno) {
	if e := check(machine.ValidCurrents(m, c) && equil.ValidBox(m, total, x), total); e != api.OK {
		return api.Span{}, e
	}
	// the plasma has no part in the known field
	c.Plasma = make([]int, len(c.Plasma))
	upward := func(p api.Point) int {
		radial, _, _ := machine.Field(m, c, p)
		return -radial
	}
	return weighted(total, x, weights(m, upward), liftUnit)
}

// weights returns what weight tells of each cell's place.
func weights(m api.Machine, weight func(api.Point) int) []int {
	list := places(m)
	w := make([]int, len(list))
	for cell, p := range list {
		w[cell] = weight(p)
	}
	return w
}

// weighted returns the weighted span of a valid box, divided by d and rounded outward.
func weighted(total int, x []api.Span, w []int, d int) (api.Span, api.Errno) {
	if total < fold(x, lower, sum) || total > fold(x, upper, sum) {
		return api.Span{}, api.ErrNone
	}
	order := ascending(w)
	lo, _ := quotient(w, filled(total, x, order), d)
	slices.Reverse(order)
	_, hi := quotient(w, filled(total, x, order), d)
	return span.Make(lo, hi)
}

// ascending returns the cells in ascending order of weight.
func ascending(w []int) []int {
	order := make([]int, len(w))
	for cell := range order {
		order[cell] = cell
	}
	slices.SortFunc(order, func(a, b int) int { return cmp.Compare(w[a], w[b]) })
	return order
}

// filled returns the distribution that gives what is left of the total, when each cell has its Lo, to the cells in an order.
func filled(total int, x []api.Span, order []int) []int {
	j := make([]int, len(x))
	left := total - fold(x, lower, sum)
	for _, cell := range order {
		more := min(left, span.Width(x[cell]))
		j[cell] = x[cell].Lo + more
		left -= more
	}
	return j
}

// quotient returns the sum of weight times number, divided by d: rounded down, and rounded up.
func quotient(w, j []int, d int) (down, up int) {
	// the sum may be too long for an int; that of the weights' whole quotients and that of their rests are not
	wholes, rests := 0, 0
	for cell, n := range j {
		whole, rest := w[cell]/d, w[cell]%d
		wholes += whole * n
		rests += rest * n
	}
	down, left := wholes+rests/d, rests%d
	if left == 0 {
		return down, down
	}
	// a quotient of ints is rounded towards 0, which is up if it is below 0
	if left < 0 {
		down--
	}
	return down, down + 1
}
