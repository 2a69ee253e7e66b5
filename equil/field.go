package equil

import (
	"iter"
	"slices"

	"shotdesk/api"
	"shotdesk/machine"
	"shotdesk/span"
)

// A matrix has an item for each row and column.
type matrix[T any] struct {
	columns int
	items   []T // row after row
}

func (x matrix[T]) row(i int) []T { return x.items[i*x.columns : (i+1)*x.columns] }

// A field tells the flux at some places for any currents of the cells. With valid arguments each flux is below MaxValue / 2, so that its spans are valid, and no sum is too long for an int.
type field struct {
	known     []int       // at each place
	influence matrix[int] // of each place, in its row, and each cell, in its column
}

// places yields the places of the cells, and then the limiter points.
func places(m api.Machine) iter.Seq[api.Point] {
	// a machine with less to check answers sooner, which counts because it is asked for each place
	grid := api.Machine{Name: m.Name, Limits: m.Limits[:1], Grid: m.Grid}
	return func(yield func(api.Point) bool) {
		for cell := range machine.Cells(grid) {
			if p, _ := machine.Cell(grid, cell); !yield(p) {
				return
			}
		}
		for _, p := range m.Limits {
			if !yield(p) {
				return
			}
		}
	}
}

// withoutPlasma returns a machine and currents whose flux is the known one.
func withoutPlasma(m api.Machine, c api.Currents) (api.Machine, api.Currents) {
	// as in places, there is less to check
	m.Limits = m.Limits[:1]
	m.Grid = api.Grid{NR: 1, NZ: 1, Step: 1}
	m.Sensors = nil
	c.Plasma = []int{0}
	return m, c
}

// fieldAt returns the field at some places.
func fieldAt(m api.Machine, c api.Currents, at iter.Seq[api.Point]) field {
	cells := slices.Collect(places(m))[:machine.Cells(m)]
	f := field{influence: matrix[int]{columns: len(cells)}}
	bare, quiet := withoutPlasma(m, c)
	for p := range at {
		known, _ := machine.Flux(bare, quiet, p)
		f.known = append(f.known, known)
		for _, cell := range cells {
			f.influence.items = append(f.influence.items, machine.Influence(p, cell))
		}
	}
	return f
}

// fieldOf returns the field at the cells and then at the limiter points.
func fieldOf(m api.Machine, c api.Currents) field { return fieldAt(m, c, places(m)) }

// fluxes returns the spans of the flux at all places of a field.
func (f field) fluxes(x []api.Span) []api.Span {
	list := make([]api.Span, len(f.known))
	for i, known := range f.known {
		flux := api.Span{Lo: known, Hi: known}
		for cell, influence := range f.influence.row(i) {
			flux.Lo += influence * x[cell].Lo
			flux.Hi += influence * x[cell].Hi
		}
		list[i] = flux
	}
	return list
}

// parts returns the spans of the flux at the cells, of that at the limiter points, and of the boundary flux.
func (f field) parts(x []api.Span) (cells, limits []api.Span, boundary api.Span) {
	list := f.fluxes(x)
	cells, limits = list[:len(x)], list[len(x):]
	boundary, _ = span.Max(limits)
	return cells, limits, boundary
}

// excesses returns the spans of the cells' excesses, and of their sum.
func (f field) excesses(x []api.Span) (list []api.Span, sum api.Span) {
	cells, _, boundary := f.parts(x)
	for _, flux := range cells {
		excess := api.Span{Lo: max(0, flux.Lo-boundary.Hi), Hi: max(0, flux.Hi-boundary.Lo)}
		list = append(list, excess)
		sum.Lo += excess.Lo
		sum.Hi += excess.Hi
	}
	return list, sum
}

// image returns the image of a box.
func (f field) image(total int, x []api.Span) ([]api.Span, api.Errno) {
	excesses, sum := f.excesses(x)
	if sum.Lo == 0 {
		return nil, api.ErrNone
	}
	image := make([]api.Span, len(x))
	for cell, excess := range excesses {
		// the least share is that beside the greatest excesses of all other cells; the sum is above 0, so no divisor is 0
		image[cell] = api.Span{
			Lo: product(total, excess.Lo).down(excess.Lo + sum.Hi - excess.Hi),
			Hi: product(total, excess.Hi).up(excess.Hi + sum.Lo - excess.Lo),
		}
	}
	return image, api.OK
}
