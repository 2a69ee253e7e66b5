package equil

import (
	"slices"

	"shotdesk/api"
	"shotdesk/machine"
	"shotdesk/span"
)

// ValidBox reports whether a box is valid for a total.
func ValidBox(m api.Machine, total int, x []api.Span) bool {
	return machine.Check(m) == api.OK && len(x) == machine.Cells(m) &&
		!slices.ContainsFunc(x, func(a api.Span) bool { return a.Lo < 0 || a.Lo > a.Hi || a.Hi > total })
}

// checkBox returns the first error of what it takes to tell the image of a box.
func checkBox(m api.Machine, c api.Currents, total int, x []api.Span) api.Errno {
	return check(machine.ValidCurrents(m, c) && ValidBox(m, total, x), validTotal(total))
}

// Fluxes returns the spans of the flux at some places.
func Fluxes(m api.Machine, c api.Currents, x []api.Span, l []api.Point) ([]api.Span, api.Errno) {
	if e := checkBox(m, c, api.MaxAmp, x); e != api.OK {
		return nil, e
	}
	if len(l) > maxPlaces {
		return nil, api.ErrLimit
	}
	if slices.ContainsFunc(l, tooFar) {
		return nil, api.ErrRange
	}
	return fieldAt(m, c, slices.Values(l)).fluxes(x), api.OK
}

func tooFar(p api.Point) bool {
	return !within(p.R, -fluxFar, fluxFar) || !within(p.Z, -fluxFar, fluxFar)
}

// Boundary returns the span of the boundary flux.
func Boundary(m api.Machine, c api.Currents, x []api.Span) (api.Span, api.Errno) {
	if e := checkBox(m, c, api.MaxAmp, x); e != api.OK {
		return api.Span{}, e
	}
	_, _, boundary := fieldOf(m, c).parts(x)
	return boundary, api.OK
}

// ImageBox returns the image of a box.
func ImageBox(m api.Machine, c api.Currents, total int, x []api.Span) ([]api.Span, api.Errno) {
	if e := checkBox(m, c, total, x); e != api.OK {
		return nil, e
	}
	return fieldOf(m, c).image(total, x)
}

// Judge reports whether a box is proved.
func Judge(m api.Machine, c api.Currents, total int, x []api.Span) bool {
	image, e := ImageBox(m, c, total, x)
	return e == api.OK && lies(image, x)
}

// lies reports whether x lies in y, cell by cell.
func lies(x, y []api.Span) bool {
	for cell, a := range x {
		if !span.Inside(a, y[cell]) {
			return false
		}
	}
	return true
}

// Sides tells for each cell whether it is inside.
func Sides(m api.Machine, c api.Currents, x []api.Span) ([]api.Truth, api.Errno) {
	if e := checkBox(m, c, api.MaxAmp, x); e != api.OK {
		return nil, e
	}
	cells, _, boundary := fieldOf(m, c).parts(x)
	list := make([]api.Truth, len(cells))
	for cell, flux := range cells {
		list[cell] = span.Less(boundary, flux)
	}
	return list, api.OK
}

// Touching returns the limiter points that are surely touching, and those that are possibly touching.
func Touching(m api.Machine, c api.Currents, x []api.Span) (sure, possible []int, e api.Errno) {
	if e := checkBox(m, c, api.MaxAmp, x); e != api.OK {
		return nil, nil, e
	}
	_, limits, boundary := fieldOf(m, c).parts(x)
	for i, flux := range limits {
		if surelyTouches(limits, i) {
			sure = append(sure, i)
		}
		if span.Less(flux, boundary) != api.Yes {
			possible = append(possible, i)
		}
	}
	return sure, possible, api.OK
}

// surelyTouches reports whether no other limiter point's flux can be above that of point i.
func surelyTouches(limits []api.Span, i int) bool {
	for other, flux := range limits {
		if other != i && span.Less(limits[i], flux) != api.No {
			return false
		}
	}
	return true
}
