package sense

import (
	"iter"
	"slices"

	"shotdesk/api"
	"shotdesk/machine"
	"shotdesk/span"
)

// claims are the currents with which each sensor agrees in one cell; a span that is not valid stands for none.
type claims []api.Span

// backgrounds returns the backgrounds of all sensors.
func backgrounds(m api.Machine, c api.Currents) []int {
	list := make([]int, len(m.Sensors))
	for k := range list {
		list[k], _ = Background(m, c, k)
	}
	return list
}

// claimsIn returns the claims in one cell, for backgrounds of all sensors.
func claimsIn(m api.Machine, backgrounds []int, r []api.Span, cell int) claims {
	place, _ := machine.Cell(m, cell)
	list := make(claims, len(m.Sensors))
	for k := range list {
		list[k] = allowed(r[k], backgrounds[k], responseAt(m, k, place))
	}
	return list
}

// claimsOf returns the claims in each of the cells.
func claimsOf(m api.Machine, c api.Currents, r []api.Span) []claims {
	known := backgrounds(m, c)
	list := make([]claims, len(c.Plasma))
	for cell := range list {
		list[cell] = claimsIn(m, known, r, cell)
	}
	return list
}

// agreeing yields the sensors that agree with a current, in ascending order.
func (l claims) agreeing(current int) iter.Seq[int] {
	return func(yield func(int) bool) {
		for k, a := range l {
			if span.Contains(a, current) && !yield(k) {
				return
			}
		}
	}
}

// count returns how many sensors agree with a current.
func (l claims) count(current int) int {
	n := 0
	for range l.agreeing(current) {
		n++
	}
	return n
}

// beginnings yields the currents at which the agreement of some sensor may begin, in ascending order: the least of those with which the most agree is one of them.
func (l claims) beginnings() iter.Seq[int] {
	list := []int{0}
	for _, a := range l {
		if span.Valid(a) {
			list = append(list, a.Lo)
		}
	}
	slices.Sort(list)
	return slices.Values(list)
}

// common returns the currents with which all sensors agree, and whether there are any.
func (l claims) common() (api.Span, bool) {
	all := possibleCurrents(0, api.MaxAmp)
	for _, a := range l {
		both, e := span.Meet(all, a)
		if e != api.OK {
			return api.Span{}, false
		}
		all = both
	}
	return all, true
}
