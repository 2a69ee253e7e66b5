package circuit_test

import (
	"fmt"
	"hash/fnv"
	"math"
	"math/rand"
	"testing"

	"shotdesk/api"
	"shotdesk/circuit"
)

// 3.1
func TestValidState(t *testing.T) {
	for what, change := range map[string]func(s *api.State){
		"as it is":       func(s *api.State) {},
		"first tick":     func(s *api.State) { s.Tick = 0 },
		"last tick":      func(s *api.State) { s.Tick = lastTick },
		"heats' ends":    func(s *api.State) { s.Heat[0], s.Heat[1] = 0, api.MaxValue },
		"coils' ends":    func(s *api.State) { s.C.Coils[0], s.C.Coils[1] = api.MaxAmp, -api.MaxAmp },
		"shells' ends":   func(s *api.State) { s.C.Shells[0], s.C.Shells[1] = api.MaxAmp, -api.MaxAmp },
		"greatest cells": func(s *api.State) { s.C.Plasma[0] = api.MaxAmp - 123 },
		"all tripped":    func(s *api.State) { s.Tripped[0], s.Tripped[1] = true, true },
	} {
		s := busy()
		change(&s)
		if !circuit.ValidState(toy(), s) {
			t.Errorf("%s: %v is valid", what, s)
		}
	}
	for what, s := range brokenStates() {
		if circuit.ValidState(toy(), s) {
			t.Errorf("%s: %v is not valid", what, s)
		}
	}
	for i, m := range brokenMachines() {
		if circuit.ValidState(m, busy()) {
			t.Errorf("a state of the broken machine %d is valid", i)
		}
	}
	m, s := bare()
	if !circuit.ValidState(m, s) {
		t.Error("nil lists and empty lists are the same")
	}
}

// 3.1
func TestBegin(t *testing.T) {
	s, e := circuit.Begin(toy())
	want := api.State{
		C:       api.Currents{Coils: []int{0, 0}, Shells: []int{0, 0}, Plasma: make([]int, 6)},
		Heat:    []int{0, 0},
		Tripped: []bool{false, false},
	}
	if e != api.OK || !circuit.Same(s, want) || !circuit.ValidState(toy(), s) {
		t.Errorf("Begin = %v, %d", s, e)
	}
	m, _ := bare()
	if s, e := circuit.Begin(m); e != api.OK || !circuit.Same(s, api.State{C: api.Currents{Plasma: []int{0}}}) {
		t.Errorf("Begin of the bare machine = %v, %d", s, e)
	}
	for i, m := range append(brokenMachines(), api.Machine{}) {
		if s, e := circuit.Begin(m); e != api.ErrInvalid || !zero(s) {
			t.Errorf("Begin of the broken machine %d = %v, %d", i, s, e)
		}
	}
}

func zero(s api.State) bool { return circuit.Same(s, api.State{}) }

// 3.4
func TestSame(t *testing.T) {
	if !circuit.Same(busy(), busy()) || !circuit.Same(api.State{}, api.State{}) {
		t.Error("a state is not the same as itself")
	}
	empty := api.State{C: api.Currents{Coils: []int{}, Shells: []int{}, Plasma: []int{}}, Heat: []int{}, Tripped: []bool{}}
	if !circuit.Same(empty, api.State{}) || !circuit.Same(api.State{}, empty) {
		t.Error("nil lists and empty lists are the same")
	}
	for what, change := range changes() {
		s := busy()
		change(&s)
		if circuit.Same(s, busy()) || circuit.Same(busy(), s) {
			t.Errorf("%s makes no difference", what)
		}
	}
}

// changes make another state of a busy one.
func changes() map[string]func(s *api.State) {
	return map[string]func(s *api.State){
		"the tick":       func(s *api.State) { s.Tick++ },
		"a coil":         func(s *api.State) { s.C.Coils[1]++ },
		"a shell":        func(s *api.State) { s.C.Shells[1]++ },
		"a cell":         func(s *api.State) { s.C.Plasma[5]++ },
		"a heat":         func(s *api.State) { s.Heat[1]++ },
		"a trip":         func(s *api.State) { s.Tripped[1] = false },
		"a coil more":    func(s *api.State) { s.C.Coils = append(s.C.Coils, 0) },
		"a shell more":   func(s *api.State) { s.C.Shells = append(s.C.Shells, 0) },
		"a cell more":    func(s *api.State) { s.C.Plasma = append(s.C.Plasma, 0) },
		"a heat more":    func(s *api.State) { s.Heat = append(s.Heat, 0) },
		"a trip more":    func(s *api.State) { s.Tripped = append(s.Tripped, false) },
		"no coils":       func(s *api.State) { s.C.Coils = nil },
		"no trips":       func(s *api.State) { s.Tripped = nil },
		"coils' order":   func(s *api.State) { s.C.Coils[0], s.C.Coils[1] = s.C.Coils[1], s.C.Coils[0] },
		"lists in place": func(s *api.State) { s.C.Coils, s.C.Shells = s.C.Shells, s.C.Coils },
	}
}

// text is the text of which a state's digest is the hash.
func text(s api.State) string {
	l := fmt.Sprintf("%d %d %d %d ", s.Tick, len(s.C.Coils), len(s.C.Shells), len(s.C.Plasma))
	for _, list := range [][]int{s.C.Coils, s.C.Shells, s.C.Plasma, s.Heat} {
		for _, n := range list {
			l += fmt.Sprintf("%d ", n)
		}
	}
	for _, x := range s.Tripped {
		l += map[bool]string{false: "0 ", true: "1 "}[x]
	}
	return l
}

// hash is the chapter's: it has the numbers of FNV-1a.
func hash(text string) uint64 {
	h := fnv.New64a()
	h.Write([]byte(text))
	return h.Sum64()
}

// 3.4
func TestDigest(t *testing.T) {
	if s := "7 2 2 6 200 -300 25 -60 0 1 2 30 40 50 1000 2000 0 1 "; text(busy()) != s || circuit.Digest(busy()) != hash(s) {
		t.Errorf("Digest = %d, want that of %q", circuit.Digest(busy()), s)
	}
	h := uint64(14695981039346656037)
	for _, b := range []byte("0 0 0 0 ") {
		h = (h ^ uint64(b)) * 1099511628211
	}
	if circuit.Digest(api.State{}) != h {
		t.Errorf("Digest of nothing = %d, want %d", circuit.Digest(api.State{}), h)
	}
	for what, change := range changes() {
		s := busy()
		change(&s)
		if d := circuit.Digest(s); d != hash(text(s)) || d == circuit.Digest(busy()) {
			t.Errorf("%s: Digest = %d, want %d", what, d, hash(text(s)))
		}
	}
}

// 3.4: Digest takes any state
func TestDigestOfAny(t *testing.T) {
	for what, s := range brokenStates() {
		if d := circuit.Digest(s); d != hash(text(s)) {
			t.Errorf("%s: Digest = %d, want %d", what, d, hash(text(s)))
		}
	}
	odd := api.State{Tick: math.MinInt, C: api.Currents{Shells: []int{math.MaxInt, math.MinInt, 0}}, Tripped: []bool{true, false, true}}
	if d := circuit.Digest(odd); d != hash(text(odd)) {
		t.Errorf("Digest = %d, want %d", d, hash(text(odd)))
	}
	r := rand.New(rand.NewSource(1))
	for range 200 {
		s := someState(r, some(r))
		if d := circuit.Digest(s); d != hash(text(s)) {
			t.Errorf("Digest of %v = %d, want %d", s, d, hash(text(s)))
		}
	}
}
