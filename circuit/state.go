// Package circuit moves the currents of coils and vessel from tick to tick; see doc/03-circuit.md.
package circuit

import (
	"slices"
	"strconv"

	"shotdesk/api"
	"shotdesk/machine"
)

// lastTick is the greatest tick of a state.
const lastTick = 1000000000

// ValidState reports whether a state is valid for a machine.
func ValidState(m api.Machine, s api.State) bool {
	return machine.ValidCurrents(m, s.C) && within(s.Tick, 0, lastTick) &&
		validList(s.Heat, len(m.Coils), 0, api.MaxValue) && len(s.Tripped) == len(m.Coils)
}

func validChange(m api.Machine, change []int) bool {
	return validList(change, len(m.Coils), -api.MaxValue, api.MaxValue)
}

// validSources reports whether currents of coils and cells are valid, whatever those of the shells are.
func validSources(m api.Machine, coils, plasma []int) bool {
	shells := make([]int, len(m.Shells))
	return machine.ValidCurrents(m, api.Currents{Coils: coils, Shells: shells, Plasma: plasma})
}

func validDrive(m api.Machine, d api.Drive) bool {
	return validChange(m, d.Change) && validSources(m, make([]int, len(m.Coils)), d.Plasma)
}

func validList(list []int, count, from, to int) bool {
	return len(list) == count && !slices.ContainsFunc(list, func(n int) bool { return !within(n, from, to) })
}

func within(n, from, to int) bool { return from <= n && n <= to }

// Begin returns the state at the tick 0.
func Begin(m api.Machine) (api.State, api.Errno) {
	if machine.Check(m) != api.OK {
		return api.State{}, api.ErrInvalid
	}
	count := len(m.Coils)
	return api.State{C: machine.Quiet(m), Heat: make([]int, count), Tripped: make([]bool, count)}, api.OK
}

// Same reports whether two states are equal.
func Same(a, b api.State) bool {
	return a.Tick == b.Tick &&
		slices.Equal(a.C.Coils, b.C.Coils) && slices.Equal(a.C.Shells, b.C.Shells) && slices.Equal(a.C.Plasma, b.C.Plasma) &&
		slices.Equal(a.Heat, b.Heat) && slices.Equal(a.Tripped, b.Tripped)
}

func clone(s api.State) api.State {
	s.C = api.Currents{Coils: slices.Clone(s.C.Coils), Shells: slices.Clone(s.C.Shells), Plasma: slices.Clone(s.C.Plasma)}
	s.Heat = slices.Clone(s.Heat)
	s.Tripped = slices.Clone(s.Tripped)
	return s
}

const (
	hashBegin  = 14695981039346656037
	hashFactor = 1099511628211
)

// hash is the hash of a text that is taken in piece by piece.
type hash uint64

// add takes in numbers, each with a blank behind it.
func (h *hash) add(numbers ...int) {
	for _, n := range numbers {
		for _, b := range []byte(strconv.Itoa(n) + " ") {
			*h = (*h ^ hash(b)) * hashFactor
		}
	}
}

// Digest returns the hash of a state's text.
func Digest(s api.State) uint64 {
	h := hash(hashBegin)
	h.add(s.Tick, len(s.C.Coils), len(s.C.Shells), len(s.C.Plasma))
	h.add(s.C.Coils...)
	h.add(s.C.Shells...)
	h.add(s.C.Plasma...)
	h.add(s.Heat...)
	for _, tripped := range s.Tripped {
		if tripped {
			h.add(1)
		} else {
			h.add(0)
		}
	}
	return uint64(h)
}
