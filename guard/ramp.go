package guard

import (
	"slices"

	"shotdesk/api"
	"shotdesk/circuit"
	"shotdesk/control"
	"shotdesk/machine"
)

const (
	sixteenths = 16   // how many parts a cell's current has
	maxRamp    = 1000 // ticks
)

// Drop returns how many sixteenths of the cells' currents a ramp takes in a state's next tick.
func Drop(m api.Machine, s api.State, b api.Safety) (n int, e api.Errno) {
	if !circuit.ValidState(m, s) || !control.ValidSafety(b) {
		return 0, api.ErrInvalid
	}
	n, _, e = lower(m, s, b)
	return n, e
}

// Ramp returns the states of a ramp.
func Ramp(m api.Machine, s api.State, b api.Safety, most int) ([]api.State, api.Errno) {
	if !circuit.ValidState(m, s) || !control.ValidSafety(b) {
		return nil, api.ErrInvalid
	}
	if !within(most, 0, maxRamp) {
		return nil, api.ErrRange
	}
	// no ticks make of a state the same one in new memory
	now, _ := circuit.Coast(m, s, 0)
	list := []api.State{now}
	for machine.Total(now.C) > 0 {
		if len(list) > most {
			return nil, api.ErrNone
		}
		_, next, e := lower(m, now, b)
		if e != api.OK {
			return nil, e
		}
		now = next
		list = append(list, now)
	}
	return list, api.OK
}

// lower returns the greatest n that leaves the shells safe, or else 0, and the state after the tick in which it is taken.
func lower(m api.Machine, s api.State, b api.Safety) (int, api.State, api.Errno) {
	for n := sixteenths; ; n-- {
		next, e := circuit.Step(m, s, api.Drive{Change: make([]int, len(m.Coils)), Plasma: less(s.C.Plasma, n)})
		if e != api.OK {
			return 0, api.State{}, e
		}
		// where nothing is safe the cells keep their currents, be that safe or not
		if n == 0 || quiet(next.C.Shells, b.Shell) {
			return n, next, api.OK
		}
	}
}

// less returns the cells' currents without n sixteenths of them.
func less(cells []int, n int) []int {
	list := make([]int, len(cells))
	for i, current := range cells {
		list[i] = current * (sixteenths - n) / sixteenths
	}
	return list
}

func quiet(shells []int, most int) bool {
	return !slices.ContainsFunc(shells, func(current int) bool { return !within(current, -most, most) })
}
