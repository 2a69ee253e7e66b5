package shape

import (
	"strings"

	"shotdesk/api"
	"shotdesk/equil"
	"shotdesk/span"
)

// A region has the places of the cells that are surely inside, and of all that may be inside, these among them.
type region struct{ sure, possible []api.Point }

func regionOf(m api.Machine, c api.Currents, x []api.Span) (region, api.Errno) {
	sides, e := equil.Sides(m, c, x)
	if e != api.OK {
		return region{}, e
	}
	var g region
	for cell, p := range places(m) {
		if sides[cell] == api.Yes {
			g.sure = append(g.sure, p)
		}
		if sides[cell] != api.No {
			g.possible = append(g.possible, p)
		}
	}
	return g, api.OK
}

// Area returns the span of the number of cells inside.
func Area(m api.Machine, c api.Currents, x []api.Span) (api.Span, api.Errno) {
	g, e := regionOf(m, c, x)
	if e != api.OK {
		return api.Span{}, e
	}
	return api.Span{Lo: len(g.sure), Hi: len(g.possible)}, api.OK
}

// Extent returns the spans of how far the cells inside reach.
func Extent(m api.Machine, c api.Currents, x []api.Span) (top, bottom, inner, outer api.Span, e api.Errno) {
	g, e := regionOf(m, c, x)
	if e == api.OK && len(g.sure) == 0 {
		e = api.ErrNone
	}
	if e != api.OK {
		return api.Span{}, api.Span{}, api.Span{}, api.Span{}, e
	}
	radius := func(p api.Point) int { return p.R }
	height := func(p api.Point) int { return p.Z }
	return g.reach(height, greatest), g.reach(height, least), g.reach(radius, least), g.reach(radius, greatest), api.OK
}

// reach returns the span between what the sure places reach in a direction and what all that are possible do, which are never behind.
func (g region) reach(coordinate func(api.Point) int, farthest func(a, b int) int) api.Span {
	a, _ := span.Make(fold(g.sure, coordinate, farthest), fold(g.possible, coordinate, farthest))
	return a
}

// signs are those of truths in a picture.
var signs = [...]byte{api.No: '.', api.Yes: '#', api.Maybe: '?'}

// A picture is written row by row.
type picture struct{ strings.Builder }

func (p *picture) row(sides []api.Truth) {
	for _, side := range sides {
		p.WriteByte(signs[side])
	}
	p.WriteByte('\n')
}

// Picture returns a sign for each cell that tells whether it is inside, the highest row first.
func Picture(m api.Machine, c api.Currents, x []api.Span) (string, api.Errno) {
	sides, e := equil.Sides(m, c, x)
	if e != api.OK {
		return "", e
	}
	var p picture
	for end := len(sides); end > 0; end -= m.Grid.NR {
		p.row(sides[end-m.Grid.NR : end])
	}
	return p.String(), api.OK
}
