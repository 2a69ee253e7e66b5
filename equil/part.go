package equil

import (
	"slices"

	"shotdesk/api"
	"shotdesk/span"
)

// Meet returns the box of what two boxes have in common.
func Meet(m api.Machine, total int, x, y []api.Span) ([]api.Span, api.Errno) {
	if e := check(ValidBox(m, total, x) && ValidBox(m, total, y), validTotal(total)); e != api.OK {
		return nil, e
	}
	return combine(x, y, span.Meet)
}

// Split returns the halves of a box in which a cell's span ends at its middle, and begins there.
func Split(m api.Machine, total int, x []api.Span, cell int) (low, high []api.Span, e api.Errno) {
	if e := check(ValidBox(m, total, x), validTotal(total) && within(cell, 0, len(x)-1)); e != api.OK {
		return nil, nil, e
	}
	low, high = slices.Clone(x), slices.Clone(x)
	middle := span.Middle(x[cell])
	low[cell].Hi, high[cell].Lo = middle, middle
	return low, high, api.OK
}

// Holds reports whether a box holds whole numbers.
func Holds(x []api.Span, j []int) bool {
	if len(x) != len(j) {
		return false
	}
	for cell, a := range x {
		// not span.Contains, for which a span with ends beyond MaxValue holds nothing
		if !within(j[cell], a.Lo, a.Hi) {
			return false
		}
	}
	return true
}

// MirrorBox returns the box in the mirrored machine.
func MirrorBox(m api.Machine, x []api.Span) ([]api.Span, api.Errno) {
	if !ValidBox(m, api.MaxAmp, x) {
		return nil, api.ErrInvalid
	}
	mirrored := make([]api.Span, 0, len(x))
	for row := m.Grid.NZ - 1; row >= 0; row-- {
		mirrored = append(mirrored, x[row*m.Grid.NR:(row+1)*m.Grid.NR]...)
	}
	return mirrored, api.OK
}
