package circuit

import (
	"iter"
	"slices"

	"shotdesk/api"
)

// maxRun is how many ticks a call moves a state on.
const maxRun = 10000

// states yields s and the state after each of the drives.
func (c circuit) states(s api.State, drives iter.Seq[api.Drive]) iter.Seq[api.State] {
	return func(yield func(api.State) bool) {
		now := clone(s)
		if !yield(now) {
			return
		}
		for d := range drives {
			now = c.after(now, d)
			if !yield(now) {
				return
			}
		}
	}
}

// Run returns s and the state after each of the drives.
func Run(m api.Machine, s api.State, l []api.Drive) ([]api.State, api.Errno) {
	unfit := func(d api.Drive) bool { return !validDrive(m, d) }
	if !ValidState(m, s) || slices.ContainsFunc(l, unfit) {
		return nil, api.ErrInvalid
	}
	if s.Tick+len(l) > lastTick {
		return nil, api.ErrRange
	}
	if len(l) > maxRun {
		return nil, api.ErrLimit
	}
	return slices.Collect(newCircuit(m).states(s, slices.Values(l))), api.OK
}

// Step returns the state after a tick.
func Step(m api.Machine, s api.State, d api.Drive) (api.State, api.Errno) {
	if !ValidState(m, s) || !validDrive(m, d) {
		return api.State{}, api.ErrInvalid
	}
	return repeat(m, s, d, 1)
}

// Coast returns the state after n ticks in which no change is asked for and the cells keep their currents.
func Coast(m api.Machine, s api.State, n int) (api.State, api.Errno) {
	if !ValidState(m, s) {
		return api.State{}, api.ErrInvalid
	}
	return repeat(m, s, api.Drive{Change: make([]int, len(m.Coils)), Plasma: s.C.Plasma}, n)
}

// Quench returns the state after a tick in which no change is asked for and the plasma is lost.
func Quench(m api.Machine, s api.State) (api.State, api.Errno) {
	if !ValidState(m, s) {
		return api.State{}, api.ErrInvalid
	}
	return repeat(m, s, api.Drive{Change: make([]int, len(m.Coils)), Plasma: make([]int, len(s.C.Plasma))}, 1)
}

// repeat returns the state after n ticks of one drive, for a state and a drive that are valid.
func repeat(m api.Machine, s api.State, d api.Drive, n int) (api.State, api.Errno) {
	if !within(n, 0, maxRun) || s.Tick+n > lastTick {
		return api.State{}, api.ErrRange
	}
	drives := slices.Values(slices.Repeat([]api.Drive{d}, n))
	var last api.State
	for state := range newCircuit(m).states(s, drives) {
		last = state
	}
	return last, api.OK
}
