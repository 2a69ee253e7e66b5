package equil

import (
	"slices"

	"shotdesk/api"
	"shotdesk/machine"
	"shotdesk/span"
)

// How long Find goes on.
const (
	findRounds = 60
	findWidths = 15 // from 1, each twice the one before, to 16,384
	findLooks  = 20 // at the boxes of a width
	findTimes  = 20 // of narrowing
)

// Find returns a proved box, narrowed.
func Find(m api.Machine, c api.Currents, total int) ([]api.Span, api.Errno) {
	if e := check(machine.ValidCurrents(m, c), validTotal(total)); e != api.OK {
		return nil, e
	}
	f := fieldOf(m, c)
	j, _, e := f.iterate(total, Even(len(c.Plasma), total), findRounds)
	if e != api.OK {
		return nil, e
	}
	next := f.search(total, j)
	for range findWidths {
		if x, e := next(); e == api.OK {
			return f.narrow(total, x, findTimes)
		}
	}
	return nil, api.ErrNone
}

// search returns a function that tries the next width each time it is called, and returns the proved box that it leads to.
func (f field) search(total int, j []int) func() ([]api.Span, api.Errno) {
	width := 1
	return func() ([]api.Span, api.Errno) {
		x := around(j, width, total)
		width *= 2
		return f.grow(total, x)
	}
}

// around returns the box of all that is no farther from j than a width.
func around(j []int, width, total int) []api.Span {
	x := make([]api.Span, len(j))
	for cell, n := range j {
		x[cell] = api.Span{Lo: max(0, n-width), Hi: min(total, n+width)}
	}
	return x
}

// grow returns the first proved box on the way from a box to larger ones.
func (f field) grow(total int, x []api.Span) ([]api.Span, api.Errno) {
	for range findLooks {
		image, e := f.image(total, x)
		if e != api.OK {
			return nil, e
		}
		if lies(image, x) {
			return x, api.OK
		}
		x, _ = combine(x, image, span.Hull)
	}
	return nil, api.ErrNone
}

// combine does something with the spans of two boxes, cell by cell.
func combine(x, y []api.Span, do func(a, b api.Span) (api.Span, api.Errno)) ([]api.Span, api.Errno) {
	list := make([]api.Span, len(x))
	for cell, a := range x {
		both, e := do(a, y[cell])
		if e != api.OK {
			return nil, e
		}
		list[cell] = both
	}
	return list, api.OK
}

// Narrow returns the meet of a box with its image, n times or until nothing changes.
func Narrow(m api.Machine, c api.Currents, total int, x []api.Span, n int) ([]api.Span, api.Errno) {
	if e := checkBox(m, c, total, x); e != api.OK {
		return nil, e
	}
	if !within(n, 0, maxTimes) {
		return nil, api.ErrRange
	}
	return fieldOf(m, c).narrow(total, x, n)
}

func (f field) narrow(total int, x []api.Span, n int) ([]api.Span, api.Errno) {
	x = slices.Clone(x)
	for range n {
		image, e := f.image(total, x)
		if e != api.OK {
			return nil, e
		}
		next, e := combine(x, image, span.Meet)
		if e != api.OK {
			return nil, e
		}
		if slices.Equal(next, x) {
			break
		}
		x = next
	}
	return x, api.OK
}

// Misses returns the first cell whose image has no number in common with its span, or -1.
func Misses(m api.Machine, c api.Currents, total int, x []api.Span) (int, api.Errno) {
	image, e := ImageBox(m, c, total, x)
	if e != api.OK {
		return 0, e
	}
	for cell, a := range image {
		if span.Lies(a, x[cell]) == api.No {
			return cell, api.OK
		}
	}
	return -1, api.OK
}
