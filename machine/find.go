package machine

import (
	"slices"

	"shotdesk/api"
)

// Cells returns the number of a grid's cells.
func Cells(m api.Machine) int {
	if Check(m) != api.OK {
		return 0
	}
	return cells(m.Grid)
}

func cells(g api.Grid) int { return g.NR * g.NZ }

// Cell returns the place of a cell.
func Cell(m api.Machine, i int) (api.Point, api.Errno) {
	if Check(m) != api.OK {
		return api.Point{}, api.ErrInvalid
	}
	if !within(i, 0, cells(m.Grid)-1) {
		return api.Point{}, api.ErrRange
	}
	return cellPlace(m.Grid, i), api.OK
}

func cellPlace(g api.Grid, i int) api.Point {
	return api.Point{R: g.R + i%g.NR*g.Step, Z: g.Z + i/g.NR*g.Step}
}

// CellAt returns the number of the cell at a place, or -1.
func CellAt(m api.Machine, p api.Point) int {
	// comparing places is safe for coordinates of which a difference is none
	for i := range Cells(m) {
		if cellPlace(m.Grid, i) == p {
			return i
		}
	}
	return -1
}

// Coil returns the index of a coil's name, or -1.
func Coil(m api.Machine, name string) int {
	if Check(m) != api.OK {
		return -1
	}
	return coilNamed(m.Coils, name)
}

func coilNamed(coils []api.Coil, name string) int {
	return slices.IndexFunc(coils, func(c api.Coil) bool { return c.Name == name })
}

// Sensor returns the index of a sensor's name, or -1.
func Sensor(m api.Machine, name string) int {
	if Check(m) != api.OK {
		return -1
	}
	return sensorNamed(m.Sensors, name)
}

func sensorNamed(sensors []api.Sensor, name string) int {
	return slices.IndexFunc(sensors, func(s api.Sensor) bool { return s.Name == name })
}
