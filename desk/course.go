package desk

import (
	"slices"

	"shotdesk/api"
	"shotdesk/circuit"
	"shotdesk/equil"
	"shotdesk/machine"
	"shotdesk/plan"
)

// plasmaRounds is how many rounds the plasma makes in a tick.
const plasmaRounds = 3

// A course tells how the states of a shot follow each other, if the modes and the orders are known.
type course struct {
	m     api.Machine
	scene api.Scene
	p     api.Plan
}

// begin returns the state with which a shot begins: s without its plasma, in new memory.
func begin(s api.State) api.State {
	s = cloneState(s)
	clear(s.C.Plasma)
	return s
}

// after returns the state behind the tick t.
func (c course) after(s api.State, t, mode int, change []int) (api.State, api.Errno) {
	return circuit.Step(c.m, s, api.Drive{Change: c.pushed(change, t), Plasma: c.plasma(s, t, mode)})
}

// pushed returns changes with the pushes of the tick t.
func (c course) pushed(change []int, t int) []int {
	list := slices.Clone(change)
	for i, n := range list {
		// the pushes are less than MaxValue, so that what is cut here is too large with them, too, and no sum is too long for an int
		list[i] = cut(n, 2*api.MaxValue)
	}
	for _, p := range c.scene.Pushes {
		if p.At == t {
			list[p.Coil] += p.Change
		}
	}
	return list
}

// cut returns the number from -most to most that is nearest to n.
func cut(n, most int) int { return max(-most, min(n, most)) }

// plasma returns the cells' currents behind the tick t.
func (c course) plasma(s api.State, t, mode int) []int {
	now, start := machine.Total(s.C), s.C.Plasma
	next := c.total(now, t, mode)
	if now == 0 {
		start = equil.Even(len(start), next)
	}
	if next > 0 {
		if cells, _, e := equil.Iterate(c.m, s.C, next, start, plasmaRounds); e == api.OK {
			return cells
		}
	}
	// the plasma has come to its end, or is lost
	return make([]int, len(s.C.Plasma))
}

// total returns what the total becomes behind the tick t, if the plasma is not lost.
func (c course) total(now, t, mode int) int {
	switch {
	case mode < api.MSoft:
		return plan.Value(c.p.Current, t+1)
	case mode == api.MSoft:
		return now * 7 / 8
	}
	return 0
}
