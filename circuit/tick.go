package circuit

import (
	"slices"

	"shotdesk/api"
	"shotdesk/machine"
)

const (
	lossUnit = 1000
	heatUnit = 1000
)

// Applied returns the changes of the coils' currents that a tick makes of those that are asked for.
func Applied(m api.Machine, s api.State, change []int) ([]int, api.Errno) {
	if !ValidState(m, s) || !validChange(m, change) {
		return nil, api.ErrInvalid
	}
	return applied(m, s, change), api.OK
}

func applied(m api.Machine, s api.State, change []int) []int {
	list := make([]int, len(m.Coils))
	for i, coil := range m.Coils {
		current := s.C.Coils[i]
		if s.Tripped[i] {
			list[i] = cut(-current, coil.MaxStep)
			continue
		}
		aim := cut(current+cut(change[i], coil.MaxStep), coil.MaxCurrent)
		// a current that was beyond MaxCurrent may be farther from it than a step
		list[i] = cut(aim-current, coil.MaxStep)
	}
	return list
}

// cut returns the number from -most to most that is nearest to n.
func cut(n, most int) int { return max(-most, min(n, most)) }

// Induced returns the currents that changes of the coils' currents, and new currents of the cells, induce in the shells.
func Induced(m api.Machine, s api.State, applied, plasma []int) ([]int, api.Errno) {
	if !ValidState(m, s) || !validSources(m, applied, plasma) {
		return nil, api.ErrInvalid
	}
	return newCircuit(m).induced(applied, differences(plasma, s.C.Plasma)), api.OK
}

func differences(a, b []int) []int {
	list := make([]int, len(a))
	for i := range a {
		list[i] = a[i] - b[i]
	}
	return list
}

// A circuit is a machine with the links of its shells: what an ampere more in each coil, and then in each cell, adds to the flux at a shell.
type circuit struct {
	m     api.Machine
	links [][]int
}

func newCircuit(m api.Machine) circuit {
	cells := make([]api.Point, machine.Cells(m))
	for i := range cells {
		cells[i], _ = machine.Cell(m, i)
	}
	c := circuit{m, make([][]int, len(m.Shells))}
	for i, shell := range m.Shells {
		place := api.Point{R: shell.R, Z: shell.Z}
		for _, coil := range m.Coils {
			c.links[i] = append(c.links[i], coil.Turns*machine.Influence(place, api.Point{R: coil.R, Z: coil.Z}))
		}
		for _, cell := range cells {
			c.links[i] = append(c.links[i], machine.Influence(place, cell))
		}
	}
	return c
}

// induced returns what changes of the currents of coils and cells induce in each shell.
func (c circuit) induced(coils, cells []int) []int {
	changes := slices.Concat(coils, cells)
	list := make([]int, len(c.m.Shells))
	for i, shell := range c.m.Shells {
		sum := 0
		for j, change := range changes {
			sum += c.links[i][j] * change
		}
		list[i] = sum / shell.Self
	}
	return list
}

// A tick turns the state before it, part by part, into the state after it.
type tick struct {
	circuit
	drive   api.Drive
	s       api.State
	applied []int        // to the coils' currents
	rises   func() []int // how far the cells' currents are above those before the tick
}

// after returns the state that a drive makes of s, in new memory.
func (c circuit) after(s api.State, d api.Drive) api.State {
	t := tick{circuit: c, drive: d, s: clone(s)}
	t.rises = func() []int { return differences(t.s.C.Plasma, s.C.Plasma) }
	for _, part := range []func(){t.changeCoils, t.changeCells, t.changeShells, t.heatCoils, t.tripCoils, t.count} {
		part()
	}
	return t.s
}

func (t *tick) changeCoils() {
	t.applied = applied(t.m, t.s, t.drive.Change)
	for i, n := range t.applied {
		t.s.C.Coils[i] += n
	}
}

func (t *tick) changeCells() { copy(t.s.C.Plasma, t.drive.Plasma) }

func (t *tick) changeShells() {
	for i, n := range t.induced(t.applied, t.rises()) {
		old := t.s.C.Shells[i]
		t.s.C.Shells[i] = cut(old-lost(old, t.m.Shells[i].Loss)-n, api.MaxAmp)
	}
}

// lost returns what a shell's current loses in a tick: rounded away from 0, so that the current does end, and never more than there is, because Loss is at most lossUnit.
func lost(current, loss int) int {
	size := (max(current, -current)*loss + lossUnit - 1) / lossUnit
	if current < 0 {
		return -size
	}
	return size
}

func (t *tick) heatCoils() {
	for i, coil := range t.m.Coils {
		current := t.s.C.Coils[i]
		heat := t.s.Heat[i] + current*current/heatUnit - coil.Cool
		t.s.Heat[i] = max(0, min(heat, api.MaxValue))
	}
}

func (t *tick) tripCoils() {
	for i, coil := range t.m.Coils {
		heat := t.s.Heat[i]
		switch {
		case heat > coil.MaxHeat:
			t.s.Tripped[i] = true
		case t.s.C.Coils[i] == 0 && heat <= coil.MaxHeat/2:
			t.s.Tripped[i] = false
		}
	}
}

func (t *tick) count() { t.s.Tick++ }
