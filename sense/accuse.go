package sense

import (
	"maps"
	"slices"

	"shotdesk/api"
	"shotdesk/machine"
	"shotdesk/span"
)

// Candidates returns the cells in which all sensors agree with some currents, and these.
func Candidates(m api.Machine, c api.Currents, r []api.Span) ([]api.Candidate, api.Errno) {
	if !explainable(m, c, r) {
		return nil, api.ErrInvalid
	}
	var list []api.Candidate
	for cell, l := range claimsOf(m, c, r) {
		if current, agreed := l.common(); agreed {
			list = append(list, api.Candidate{Cell: cell, Current: current})
		}
	}
	return list, api.OK
}

// Where returns the smallest spans that hold the places and the currents of all candidates.
func Where(m api.Machine, l []api.Candidate) (r, z, current api.Span, e api.Errno) {
	if machine.Check(m) != api.OK {
		return api.Span{}, api.Span{}, api.Span{}, api.ErrInvalid
	}
	for i, x := range l {
		place, bad := machine.Cell(m, x.Cell)
		if bad != api.OK || !span.Valid(x.Current) {
			return api.Span{}, api.Span{}, api.Span{}, api.ErrInvalid
		}
		hereR, hereZ := api.Span{Lo: place.R, Hi: place.R}, api.Span{Lo: place.Z, Hi: place.Z}
		if i == 0 {
			r, z, current = hereR, hereZ, x.Current
		}
		r, _ = span.Hull(r, hereR)
		z, _ = span.Hull(z, hereZ)
		current, _ = span.Hull(current, x.Current)
	}
	if len(l) == 0 {
		return api.Span{}, api.Span{}, api.Span{}, api.ErrNone
	}
	return r, z, current, api.OK
}

// Accuse returns the cell and the current with which the most sensors agree, and the sensors that do not.
func Accuse(m api.Machine, c api.Currents, r []api.Span) (api.Blame, api.Errno) {
	if !explainable(m, c, r) {
		return api.Blame{}, api.ErrInvalid
	}
	var blame api.Blame
	most := -1
	for cell, l := range claimsOf(m, c, r) {
		for current := range l.beginnings() {
			// only more than before count, so that the least cell and its least current stay
			if count := l.count(current); count > most {
				most = count
				blame = api.Blame{Cell: cell, Current: current, Lying: l.lying(current)}
			}
		}
	}
	return blame, api.OK
}

// lying returns the sensors that do not agree with a current, in ascending order.
func (l claims) lying(current int) []int {
	left := map[int]bool{}
	for k := range l {
		left[k] = true
	}
	for k := range l.agreeing(current) {
		delete(left, k)
	}
	return slices.Sorted(maps.Keys(left))
}

// Excluded returns the pairs of sensors that do not agree with any cell and current both.
func Excluded(m api.Machine, c api.Currents, r []api.Span) ([][2]int, api.Errno) {
	if !explainable(m, c, r) {
		return nil, api.ErrInvalid
	}
	cells := claimsOf(m, c, r)
	var list [][2]int
	for a := range m.Sensors {
		for b := a + 1; b < len(m.Sensors); b++ {
			if !slices.ContainsFunc(cells, func(l claims) bool { return l.both(a, b) }) {
				list = append(list, [2]int{a, b})
			}
		}
	}
	return list, api.OK
}

// both reports whether two sensors agree with one current.
func (l claims) both(a, b int) bool {
	_, e := span.Meet(l[a], l[b])
	return e == api.OK
}
