package control

import (
	"slices"

	"shotdesk/api"
	"shotdesk/circuit"
	"shotdesk/equil"
	"shotdesk/machine"
	"shotdesk/span"
)

const forceUnit = 1000000000

// A field is that of coils and shells with known currents and of cells with the currents of a box. With valid arguments its spans are below MaxValue / 5, and those of its forces below that, so that all of them are valid.
type field struct {
	m     api.Machine
	c     api.Currents // without a plasma
	x     []api.Span
	cells []api.Point
}

func newField(m api.Machine, c api.Currents, x []api.Span) field {
	c.Plasma = make([]int, len(x))
	cells := make([]api.Point, len(x))
	for i := range cells {
		cells[i], _ = machine.Cell(m, i)
	}
	return field{m, c, x, cells}
}

// difference returns the span of how far the flux at a place is above that at another one, if that of coils and shells is known.
func (f field) difference(at, other api.Point, known int) api.Span {
	terms := append(slices.Clone(f.x), api.Span{Lo: known, Hi: known})
	weights := make([]int, len(terms))
	for i, cell := range f.cells {
		weights[i] = machine.Influence(cell, at) - machine.Influence(cell, other)
	}
	weights[len(f.cells)] = 1
	sum, _ := span.Dot(terms, weights)
	return sum
}

// force returns the parts of a coil's force span: R, and Z.
func (f field) force(i int) [2]api.Span {
	coil := f.m.Coils[i]
	below, above := api.Point{R: coil.R, Z: coil.Z - 1}, api.Point{R: coil.R, Z: coil.Z + 1}
	inner, outer := api.Point{R: coil.R - 1, Z: coil.Z}, api.Point{R: coil.R + 1, Z: coil.Z}
	radial, vertical, _ := machine.Field(f.m, f.c, api.Point{R: coil.R, Z: coil.Z})
	turns := coil.Turns * f.c.Coils[i]
	r, _ := span.Ratio(f.difference(outer, inner, vertical), turns, forceUnit)
	z, _ := span.Ratio(f.difference(below, above, radial), -turns, forceUnit)
	return [2]api.Span{r, z}
}

// Forces returns the parts of each coil's force span.
func Forces(m api.Machine, c api.Currents, x []api.Span) ([][2]api.Span, api.Errno) {
	if !machine.ValidCurrents(m, c) || !equil.ValidBox(m, api.MaxAmp, x) {
		return nil, api.ErrInvalid
	}
	f := newField(m, c, x)
	list := make([][2]api.Span, len(m.Coils))
	for i := range list {
		list[i] = f.force(i)
	}
	return list, api.OK
}

// Survives reports whether a state outlives the loss of the plasma.
func Survives(m api.Machine, s api.State, b api.Safety) (bool, api.Errno) {
	if !ValidSafety(b) {
		return false, api.ErrInvalid
	}
	after, e := circuit.Quench(m, s)
	if e != api.OK {
		return false, e
	}
	for _, current := range after.C.Shells {
		if !within(current, -b.Shell, b.Shell) {
			return false, api.OK
		}
	}
	for i := range m.Coils {
		r, z, _ := machine.Force(m, after.C, i)
		if !within(r, -b.Force, b.Force) || !within(z, -b.Force, b.Force) {
			return false, api.OK
		}
	}
	return true, api.OK
}
