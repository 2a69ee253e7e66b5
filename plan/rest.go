package plan

import (
	"slices"
	"sort"

	"shotdesk/api"
	"shotdesk/circuit"
	"shotdesk/machine"
)

// Rested returns the state after k ticks of rest.
func Rested(m api.Machine, s api.State, k int) (api.State, api.Errno) {
	if !circuit.ValidState(m, s) {
		return api.State{}, api.ErrInvalid
	}
	// a state cannot rest for more than all ticks that there are
	if !within(k, 0, lastTick-s.Tick) {
		return api.State{}, api.ErrRange
	}
	rested := api.State{Tick: s.Tick + k, C: machine.Quiet(m), Heat: make([]int, len(m.Coils)), Tripped: make([]bool, len(m.Coils))}
	for i, coil := range m.Coils {
		rested.Heat[i] = max(0, s.Heat[i]-k*coil.Cool)
	}
	return rested, api.OK
}

// Wait returns the least rest after which a plan's rehearsal does not break heat.
func Wait(m api.Machine, p api.Plan, s api.State) (int, api.Errno) {
	if e := checkState(m, p, s); e != api.OK {
		return 0, e
	}
	m, s = coilsAlone(m, s)
	r := newRehearsal(m, p)
	// how many numbers of ticks leave the rehearsal its ticks
	count := max(0, lastTick-p.Ticks-s.Tick+1)
	// a coil that is cooler at first is never hotter before one trips
	k := sort.Search(count, func(k int) bool {
		rested, _ := Rested(m, s, k)
		return !r.trips(rested)
	})
	if k == count {
		return 0, api.ErrNone
	}
	return k, api.OK
}

// coilsAlone returns a machine and a state of it without what no coil's heat depends on, which makes rehearsals short.
func coilsAlone(m api.Machine, s api.State) (api.Machine, api.State) {
	m.Shells, m.Sensors = nil, nil
	m.Grid.NR, m.Grid.NZ = 1, 1
	s.C.Shells, s.C.Plasma = nil, make([]int, 1)
	return m, s
}

// trips reports whether a coil is tripped in a rehearsal.
func (r rehearsal) trips(s api.State) bool {
	for now := range r.states(s) {
		if slices.Contains(now.Tripped, true) {
			return true
		}
	}
	return false
}
