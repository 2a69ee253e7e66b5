package circuit

import (
	"slices"

	"shotdesk/api"
	"shotdesk/machine"
)

// Rest returns the least number of ticks without currents after which no coil is hotter than the given heat.
func Rest(m api.Machine, s api.State, heat []int) (int, api.Errno) {
	if !ValidState(m, s) || len(heat) != len(m.Coils) {
		return 0, api.ErrInvalid
	}
	if slices.ContainsFunc(heat, func(n int) bool { return n < 0 }) {
		return 0, api.ErrRange
	}
	ticks := 0
	for i, coil := range m.Coils {
		if s.Heat[i] <= heat[i] {
			continue
		}
		if coil.Cool == 0 {
			return 0, api.ErrNone
		}
		// rounded up, because the last tick may have less left than it could cool
		ticks = max(ticks, (s.Heat[i]-heat[i]+coil.Cool-1)/coil.Cool)
	}
	return ticks, api.OK
}

// Settle returns the least number of ticks after which the shells are quiet, if nothing else changes.
func Settle(m api.Machine, s api.State) (int, api.Errno) {
	if !ValidState(m, s) {
		return 0, api.ErrInvalid
	}
	most := 0
	for i, shell := range m.Shells {
		ticks := 0
		for current := s.C.Shells[i]; current != 0; current -= lost(current, shell.Loss) {
			ticks++
		}
		most = max(most, ticks)
	}
	return most, api.OK
}

// Swing returns the sum of the absolute changes of the linked flux from state to state.
func Swing(m api.Machine, l []api.State) (int, api.Errno) {
	if machine.Check(m) != api.OK || slices.ContainsFunc(l, func(s api.State) bool { return !ValidState(m, s) }) {
		return 0, api.ErrInvalid
	}
	sum, before := 0, 0
	for i, s := range l {
		linked, _ := machine.Linked(m, s.C)
		if i > 0 {
			sum += max(linked-before, before-linked)
		}
		before = linked
	}
	return sum, api.OK
}

// Margin returns how far each coil's heat is below its greatest.
func Margin(m api.Machine, s api.State) ([]int, api.Errno) {
	if !ValidState(m, s) {
		return nil, api.ErrInvalid
	}
	list := make([]int, len(m.Coils))
	for i, coil := range m.Coils {
		list[i] = coil.MaxHeat - s.Heat[i]
	}
	return list, api.OK
}
