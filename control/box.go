package control

import (
	"shotdesk/api"
	"shotdesk/machine"
)

// Whole returns the box in which each cell may have anything up to the total.
func Whole(m api.Machine, total int) ([]api.Span, api.Errno) {
	if machine.Check(m) != api.OK {
		return nil, api.ErrInvalid
	}
	if !within(total, 1, api.MaxAmp) {
		return nil, api.ErrRange
	}
	x := make([]api.Span, machine.Cells(m))
	for cell := range x {
		x[cell].Hi = total
	}
	return x, api.OK
}

// Fixed returns the box that holds just the cells' currents.
func Fixed(m api.Machine, c api.Currents) ([]api.Span, api.Errno) {
	if !machine.ValidCurrents(m, c) {
		return nil, api.ErrInvalid
	}
	x := make([]api.Span, len(c.Plasma))
	for cell, n := range c.Plasma {
		x[cell] = api.Span{Lo: n, Hi: n}
	}
	return x, api.OK
}
