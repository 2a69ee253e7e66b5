package machine

import (
	"slices"

	"shotdesk/api"
)

// Mirror returns the machine in which every Z is -Z, and the currents in it.
func Mirror(m api.Machine, c api.Currents) (api.Machine, api.Currents, api.Errno) {
	if !ValidCurrents(m, c) {
		return api.Machine{}, api.Currents{}, api.ErrInvalid
	}
	return mirrorMachine(m), mirrorCurrents(m.Grid, c), api.OK
}

func mirrorMachine(m api.Machine) api.Machine {
	m.Coils = turned(m.Coils, func(c *api.Coil) *int { return &c.Z })
	m.Shells = turned(m.Shells, func(s *api.Shell) *int { return &s.Z })
	m.Limits = turned(m.Limits, func(p *api.Point) *int { return &p.Z })
	m.Sensors = turned(m.Sensors, func(s *api.Sensor) *int { return &s.Z })
	// a grid begins at its lowest row, which the mirror makes of the highest
	m.Grid.Z = -cellPlace(m.Grid, cells(m.Grid)-1).Z
	return m
}

// turned copies a list and gives the number that z finds in each item the other sign.
func turned[T any](list []T, z func(*T) *int) []T {
	list = slices.Clone(list)
	for i := range list {
		*z(&list[i]) *= -1
	}
	return list
}

func mirrorCurrents(g api.Grid, c api.Currents) api.Currents {
	plasma := make([]int, 0, len(c.Plasma))
	for row := range g.NZ {
		from := (g.NZ - 1 - row) * g.NR
		plasma = append(plasma, c.Plasma[from:from+g.NR]...)
	}
	return api.Currents{Coils: slices.Clone(c.Coils), Shells: slices.Clone(c.Shells), Plasma: plasma}
}
