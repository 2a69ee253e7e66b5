package sense

import (
	"slices"

	"shotdesk/api"
	"shotdesk/machine"
	"shotdesk/span"
)

// Filament returns currents in which the plasma is in one cell alone.
func Filament(m api.Machine, c api.Currents, cell, current int) (api.Currents, api.Errno) {
	if !machine.ValidCurrents(m, c) {
		return api.Currents{}, api.ErrInvalid
	}
	if !within(cell, 0, len(c.Plasma)-1) || !within(current, 0, api.MaxAmp) {
		return api.Currents{}, api.ErrRange
	}
	alone := withoutPlasma(c)
	alone.Plasma[cell] = current
	return alone, api.OK
}

func withoutPlasma(c api.Currents) api.Currents {
	return api.Currents{Coils: slices.Clone(c.Coils), Shells: slices.Clone(c.Shells), Plasma: make([]int, len(c.Plasma))}
}

// Background returns what a sensor would read exactly without the plasma.
func Background(m api.Machine, c api.Currents, sensor int) (int, api.Errno) {
	if !machine.ValidCurrents(m, c) {
		return 0, api.ErrInvalid
	}
	return machine.Exact(m, withoutPlasma(c), sensor)
}

// Response returns what a sensor would read exactly of a current of 1 in a cell alone.
func Response(m api.Machine, sensor, cell int) (int, api.Errno) {
	place, e := machine.Cell(m, cell)
	if e != api.OK {
		return 0, e
	}
	if !within(sensor, 0, len(m.Sensors)-1) {
		return 0, api.ErrRange
	}
	return responseAt(m, sensor, place), api.OK
}

// responseAt returns the response to the cell at a place.
func responseAt(m api.Machine, sensor int, place api.Point) int {
	// a machine of the sensor and the cell alone gives the same answer, and sooner, which counts because each sensor is asked for each cell
	alone := api.Machine{
		Name:    m.Name,
		Limits:  m.Limits[:1],
		Grid:    api.Grid{R: place.R, Z: place.Z, NR: 1, NZ: 1, Step: 1},
		Sensors: m.Sensors[sensor : sensor+1],
	}
	value, _ := machine.Exact(alone, api.Currents{Plasma: []int{1}}, 0)
	return value
}

// Allowed returns the currents with which a sensor agrees in a cell.
func Allowed(m api.Machine, c api.Currents, r []api.Span, sensor, cell int) (api.Span, api.Errno) {
	if !explainable(m, c, r) {
		return api.Span{}, api.ErrInvalid
	}
	response, e := Response(m, sensor, cell)
	if e != api.OK {
		return api.Span{}, e
	}
	background, _ := Background(m, c, sensor)
	a := allowed(r[sensor], background, response)
	if !span.Valid(a) {
		return api.Span{}, api.ErrNone
	}
	return a, api.OK
}

// explainable reports whether all is valid that it takes to explain readings.
func explainable(m api.Machine, c api.Currents, r []api.Span) bool {
	return machine.ValidCurrents(m, c) && ValidReadings(m, r)
}

// allowed returns the currents with which a reading is explained: a span that is not valid if there are none.
func allowed(reading api.Span, background, response int) api.Span {
	low, high := reading.Lo-background, reading.Hi-background
	switch {
	case response > 0:
		return possibleCurrents(up(low, response), down(high, response))
	case response < 0:
		return possibleCurrents(up(high, response), down(low, response))
	case span.Contains(reading, background):
		return possibleCurrents(0, api.MaxAmp)
	}
	return possibleCurrents(1, 0)
}

func possibleCurrents(from, to int) api.Span {
	return api.Span{Lo: max(from, 0), Hi: min(to, api.MaxAmp)}
}

// Agreeing returns the sensors that agree with a cell and a current.
func Agreeing(m api.Machine, c api.Currents, r []api.Span, cell, current int) ([]int, api.Errno) {
	if !explainable(m, c, r) {
		return nil, api.ErrInvalid
	}
	if !within(cell, 0, len(c.Plasma)-1) || !within(current, 0, api.MaxAmp) {
		return nil, api.ErrRange
	}
	return slices.Collect(claimsIn(m, backgrounds(m, c), r, cell).agreeing(current)), api.OK
}
