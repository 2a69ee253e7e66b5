package machine

import (
	"iter"

	"shotdesk/api"
)

const (
	influenceUnit = 1000000
	influenceFar  = 1000 // the greatest coordinate that has an influence
	fieldFar      = 100  // the greatest coordinate at which flux and fields are told
	forceUnit     = 1000000000
)

// Influence returns the influence of two places.
func Influence(a, b api.Point) int {
	if !near(a.R, a.Z, influenceFar) || !near(b.R, b.Z, influenceFar) {
		return 0
	}
	dr, dz := a.R-b.R, a.Z-b.Z
	return influenceUnit / (4 + dr*dr + dz*dz)
}

// Kernel returns the influence of each two cells.
func Kernel(m api.Machine) [][]int {
	rows := make([][]int, Cells(m))
	for i := range rows {
		rows[i] = make([]int, len(rows))
		for j := range rows {
			rows[i][j] = Influence(cellPlace(m.Grid, i), cellPlace(m.Grid, j))
		}
	}
	return rows
}

// sources yields the place and the current of all that makes flux; a coil's current counts for each of its turns.
func sources(m api.Machine, c api.Currents) iter.Seq2[api.Point, int] {
	return func(yield func(api.Point, int) bool) {
		for i, coil := range m.Coils {
			if !yield(api.Point{R: coil.R, Z: coil.Z}, coil.Turns*c.Coils[i]) {
				return
			}
		}
		for i, shell := range m.Shells {
			if !yield(api.Point{R: shell.R, Z: shell.Z}, c.Shells[i]) {
				return
			}
		}
		for i, current := range c.Plasma {
			if !yield(cellPlace(m.Grid, i), current) {
				return
			}
		}
	}
}

func fluxAt(m api.Machine, c api.Currents, p api.Point) int {
	sum := 0
	for place, current := range sources(m, c) {
		sum += Influence(p, place) * current
	}
	return sum
}

func fieldAt(m api.Machine, c api.Currents, p api.Point) (radial, vertical int) {
	below, above := api.Point{R: p.R, Z: p.Z - 1}, api.Point{R: p.R, Z: p.Z + 1}
	inner, outer := api.Point{R: p.R - 1, Z: p.Z}, api.Point{R: p.R + 1, Z: p.Z}
	radial = fluxAt(m, c, below) - fluxAt(m, c, above)
	vertical = fluxAt(m, c, outer) - fluxAt(m, c, inner)
	return radial, vertical
}

// Flux returns the flux at a place.
func Flux(m api.Machine, c api.Currents, p api.Point) (int, api.Errno) {
	if e := checkField(m, c, p); e != api.OK {
		return 0, e
	}
	return fluxAt(m, c, p), api.OK
}

// Field returns the radial and the vertical field at a place.
func Field(m api.Machine, c api.Currents, p api.Point) (radial, vertical int, e api.Errno) {
	if e := checkField(m, c, p); e != api.OK {
		return 0, 0, e
	}
	radial, vertical = fieldAt(m, c, p)
	return radial, vertical, api.OK
}

func checkField(m api.Machine, c api.Currents, p api.Point) api.Errno {
	if !ValidCurrents(m, c) {
		return api.ErrInvalid
	}
	return checkRange(near(p.R, p.Z, fieldFar))
}

// Force returns the parts of the force on a coil.
func Force(m api.Machine, c api.Currents, coil int) (r, z int, e api.Errno) {
	if !ValidCurrents(m, c) {
		return 0, 0, api.ErrInvalid
	}
	if !within(coil, 0, len(m.Coils)-1) {
		return 0, 0, api.ErrRange
	}
	at := m.Coils[coil]
	radial, vertical := fieldAt(m, c, api.Point{R: at.R, Z: at.Z})
	turns := at.Turns * c.Coils[coil]
	return force(turns, vertical), force(-turns, radial), api.OK
}

// force returns turns * field / forceUnit, rounded down.
func force(turns, field int) int {
	// the product may be too long for an int; that of turns and what whole units leave of the field is not
	units, rest := divide(field, forceUnit)
	part, _ := divide(turns*rest, forceUnit)
	return turns*units + part
}

// divide rounds the quotient down, so that the rest is never below 0.
func divide(a, b int) (quotient, rest int) {
	quotient, rest = a/b, a%b
	if rest < 0 {
		return quotient - 1, rest + b
	}
	return quotient, rest
}

// Exact returns what a sensor without an error would read.
func Exact(m api.Machine, c api.Currents, sensor int) (int, api.Errno) {
	if !ValidCurrents(m, c) {
		return 0, api.ErrInvalid
	}
	if !within(sensor, 0, len(m.Sensors)-1) {
		return 0, api.ErrRange
	}
	s := m.Sensors[sensor]
	p := api.Point{R: s.R, Z: s.Z}
	if s.Kind == api.SFlux {
		return fluxAt(m, c, p), api.OK
	}
	radial, vertical := fieldAt(m, c, p)
	if s.Kind == api.SRadial {
		return radial, api.OK
	}
	return vertical, api.OK
}

// Linked returns the flux of the coils alone at the grid's middle cell.
func Linked(m api.Machine, c api.Currents) (int, api.Errno) {
	if !ValidCurrents(m, c) {
		return 0, api.ErrInvalid
	}
	alone := Quiet(m)
	alone.Coils = c.Coils
	return fluxAt(m, alone, cellPlace(m.Grid, cells(m.Grid)/2)), api.OK
}
