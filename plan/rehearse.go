package plan

import (
	"errors"
	"iter"
	"slices"

	"shotdesk/api"
	"shotdesk/circuit"
	"shotdesk/machine"
)

const (
	lastTick = 1000000000 // the greatest tick of a state
	heatUnit = 1000       // how many parts of MaxHeat Loads tells
)

// What a rehearsal can break.
const (
	heatBreak  = "heat"
	shellBreak = "shell"
	forceBreak = "force"
	purseBreak = "purse"
)

// A breach is the error of a state that breaks something.
type breach struct {
	what  string
	index int
}

func (b breach) Error() string { return "a plan breaks its limits: " + b.what }

// A rehearsal has for each coil of a machine what tells the plan's current at a tick.
type rehearsal struct {
	m     api.Machine
	p     api.Plan
	waves []func(t int) int
}

// newRehearsal returns the rehearsal of a valid plan.
func newRehearsal(m api.Machine, p api.Plan) rehearsal {
	r := rehearsal{m, p, make([]func(t int) int, len(m.Coils))}
	for i, coil := range m.Coils {
		r.waves[i] = wave([]api.Corner{{}})
		for _, w := range p.Waves {
			if w.Coil == coil.Name {
				r.waves[i] = wave(w.Corners)
			}
		}
	}
	return r
}

// changes returns what is asked for at a tick.
func (r rehearsal) changes(s api.State, t int) []int {
	list := make([]int, len(r.waves))
	for i, value := range r.waves {
		list[i] = value(t+1) - s.C.Coils[i]
	}
	return list
}

// states yields a state without its plasma and the states after each tick of the plan, whatever they break.
func (r rehearsal) states(s api.State) iter.Seq[api.State] {
	return func(yield func(api.State) bool) {
		// no ticks make of a state the same one in new memory
		now, _ := circuit.Coast(r.m, s, 0)
		clear(now.C.Plasma)
		for t := 0; yield(now) && t < r.p.Ticks; t++ {
			now, _ = circuit.Step(r.m, now, api.Drive{Change: r.changes(now, t), Plasma: make([]int, len(now.C.Plasma))})
		}
	}
}

// look returns the first that a state breaks, if the linked flux has swung so far up to it.
func (r rehearsal) look(s api.State, swing int) error {
	if i := slices.Index(s.Tripped, true); i >= 0 {
		return breach{heatBreak, i}
	}
	for i, current := range s.C.Shells {
		if size(current) > r.p.Safety.Shell {
			return breach{shellBreak, i}
		}
	}
	for i := range r.m.Coils {
		if r.force(s, i) > r.p.Safety.Force {
			return breach{forceBreak, i}
		}
	}
	if swing > r.p.Purse {
		return breach{what: purseBreak}
	}
	return nil
}

// force returns the greater part of the force on a coil, without its sign.
func (r rehearsal) force(s api.State, coil int) int {
	right, up, _ := machine.Force(r.m, s.C, coil)
	return max(size(right), size(up))
}

// checkState returns the first error of a plan and a state.
func checkState(m api.Machine, p api.Plan, s api.State) api.Errno {
	if e := Check(m, p); e != api.OK {
		return e
	}
	return checkValid(circuit.ValidState(m, s))
}

// checkRehearsal returns the first error of a plan and a state to rehearse it from.
func checkRehearsal(m api.Machine, p api.Plan, s api.State) api.Errno {
	if e := checkState(m, p, s); e != api.OK {
		return e
	}
	return checkRange(s.Tick+p.Ticks <= lastTick)
}

// Changes returns what is asked for at a tick of a plan.
func Changes(m api.Machine, p api.Plan, s api.State, t int) ([]int, api.Errno) {
	if e := checkState(m, p, s); e != api.OK {
		return nil, e
	}
	if !within(t, 0, p.Ticks-1) {
		return nil, api.ErrRange
	}
	return newRehearsal(m, p).changes(s, t), api.OK
}

// Rehearse returns the states of a rehearsal up to the first break, and the break.
func Rehearse(m api.Machine, p api.Plan, s api.State) ([]api.State, api.Break, api.Errno) {
	if e := checkRehearsal(m, p, s); e != api.OK {
		return nil, api.Break{}, e
	}
	r := newRehearsal(m, p)
	var list []api.State
	swing := 0
	for now := range r.states(s) {
		list = append(list, now)
		tick := len(list) - 2
		if tick < 0 {
			// nothing has been rehearsed yet
			continue
		}
		more, _ := circuit.Swing(m, list[tick:])
		swing += more
		var b breach
		if errors.As(r.look(now, swing), &b) {
			return list, api.Break{Tick: tick, What: b.what, Index: b.index}, api.OK
		}
	}
	return list, api.Break{Tick: -1}, api.OK
}

// Loads returns the greatest heat, shell's current and force of a rehearsal that goes on beyond breaks, and its swing.
func Loads(m api.Machine, p api.Plan, s api.State) (heat, shell, force, swing int, e api.Errno) {
	if e := checkRehearsal(m, p, s); e != api.OK {
		return 0, 0, 0, 0, e
	}
	r := newRehearsal(m, p)
	list := slices.Collect(r.states(s))
	for _, now := range list {
		for i, coil := range m.Coils {
			heat = max(heat, (now.Heat[i]*heatUnit+coil.MaxHeat-1)/coil.MaxHeat)
			force = max(force, r.force(now, i))
		}
		for _, current := range now.C.Shells {
			shell = max(shell, size(current))
		}
	}
	swing, _ = circuit.Swing(m, list)
	return heat, shell, force, swing, api.OK
}
