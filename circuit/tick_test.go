package circuit_test

import (
	"math/rand"
	"slices"
	"testing"

	"shotdesk/api"
	"shotdesk/circuit"
)

// 3.1: the coil oh has MaxCurrent 1000 and MaxStep 100
func TestApplied(t *testing.T) {
	for _, c := range []struct {
		current int
		tripped bool
		change  int
		want    int
	}{
		{0, false, 0, 0}, {0, false, 50, 50}, {0, false, 100, 100}, {0, false, 101, 100}, {0, false, -100, -100}, {0, false, -101, -100},
		{0, false, api.MaxValue, 100}, {0, false, -api.MaxValue, -100}, {950, false, 50, 50}, {950, false, 51, 50}, {950, false, 100, 50}, {950, false, -100, -100},
		{1000, false, 1, 0}, {1000, false, -1, -1}, {-1000, false, -1, 0}, {-1000, false, 100, 100}, {-960, false, -100, -40},
		// beyond MaxCurrent it comes back, by a step at most
		{1050, false, 0, -50}, {1050, false, 100, -50}, {1050, false, -10, -50}, {1050, false, -100, -100}, {1050, false, -60, -60},
		{1500, false, 0, -100}, {1500, false, 100, -100}, {1500, false, -100, -100}, {-1500, false, 0, 100}, {-1050, false, -7, 50},
		{api.MaxAmp, false, api.MaxValue, -100}, {-api.MaxAmp, false, -api.MaxValue, 100},
		// a tripped coil pays no heed to what is asked for
		{500, true, 100, -100}, {500, true, -100, -100}, {500, true, 0, -100}, {-500, true, -100, 100}, {100, true, 5, -100}, {101, true, 5, -100},
		{30, true, 100, -30}, {-30, true, -100, 30}, {-1, true, 0, 1}, {0, true, 100, 0}, {0, true, -api.MaxValue, 0}, {1500, true, 0, -100}, {-api.MaxAmp, true, 0, 100},
	} {
		s := busy()
		s.C.Coils[0], s.Tripped[0] = c.current, c.tripped
		l, e := circuit.Applied(toy(), s, []int{c.change, 0})
		// up is tripped, with -300 and MaxStep 60
		if e != api.OK || !slices.Equal(l, []int{c.want, 60}) {
			t.Errorf("%v: Applied = %v, %d", c, l, e)
		}
		if next, e := circuit.Step(toy(), s, api.Drive{Change: []int{c.change, 0}, Plasma: s.C.Plasma}); e != api.OK || next.C.Coils[0] != c.current+c.want {
			t.Errorf("%v: the current becomes %v, %d", c, next.C.Coils, e)
		}
	}
	m, s := bare()
	if l, e := circuit.Applied(m, s, nil); len(l) != 0 || e != api.OK {
		t.Errorf("Applied without coils = %v, %d", l, e)
	}
}

// 3.1
func TestAppliedInvalid(t *testing.T) {
	check := func(what string, m api.Machine, s api.State, change []int) {
		if l, e := circuit.Applied(m, s, change); len(l) != 0 || e != api.ErrInvalid {
			t.Errorf("%s: Applied = %v, %d", what, l, e)
		}
	}
	for _, change := range brokenChanges() {
		check("changes", toy(), busy(), change)
	}
	for what, s := range brokenStates() {
		check(what, toy(), s, []int{1, 2})
	}
	for _, m := range brokenMachines() {
		check("machine", m, busy(), []int{1, 2})
	}
}

// 3.1, held by hand: the shells of the toy are at 3, 4 with Self 1000 and at -2, 5 with Self 700
func TestInduced(t *testing.T) {
	cells := busy().C.Plasma
	with := func(cell, rise int) []int {
		l := slices.Clone(cells)
		l[cell] += rise
		return l
	}
	for _, c := range []struct {
		applied, plasma []int
		want            []int
	}{
		{[]int{0, 0}, cells, []int{0, 0}},
		// of oh: 2 turns and 1000000 / (4 + 9 + 16) = 34482, 1000000 / (4 + 4 + 25) = 30303
		{[]int{10, 0}, cells, []int{689, 865}},
		{[]int{-10, 0}, cells, []int{-689, -865}},
		{[]int{1, 0}, cells, []int{68, 86}},
		{[]int{-1, 0}, cells, []int{-68, -86}},
		// of up: 3 turns and 1000000 / (4 + 49 + 16) = 14492, 1000000 / (4 + 144 + 9) = 6369
		{[]int{0, 1}, cells, []int{43, 27}},
		{[]int{1, -1}, cells, []int{(68964 - 43476) / 1000, (60606 - 19107) / 700}},
		// of the cells 0 at 10, -2: 1000000 / (4 + 49 + 36) = 11235, 1000000 / (4 + 144 + 49) = 5076; and 4 at 12, 0: 1000000 / (4 + 81 + 16) = 9900, 1000000 / (4 + 196 + 25) = 4444
		{[]int{0, 0}, with(0, 100), []int{1123, 725}},
		{[]int{0, 0}, with(4, -3), []int{-29, -19}},
		{[]int{1, 1}, with(4, -3), []int{(68964 + 43476 - 29700) / 1000, (60606 + 19107 - 13332) / 700}},
		// changes are taken as they are given, also beyond a step and for a tripped coil, and nothing is cut
		{[]int{api.MaxAmp, 0}, cells, []int{68964000, 86580000}},
		{[]int{-api.MaxAmp, -api.MaxAmp}, cells, []int{-112440000, -113875714}},
	} {
		if l, e := circuit.Induced(toy(), busy(), c.applied, c.plasma); e != api.OK || !slices.Equal(l, c.want) {
			t.Errorf("Induced by %v and %v = %v, %d, want %v", c.applied, c.plasma, l, e, c.want)
		}
	}
	m, s := bare()
	if l, e := circuit.Induced(m, s, nil, []int{6}); len(l) != 0 || e != api.OK {
		t.Errorf("Induced without shells = %v, %d", l, e)
	}
}

// 3.1
func TestInducedInvalid(t *testing.T) {
	check := func(what string, m api.Machine, s api.State, applied, plasma []int) {
		if l, e := circuit.Induced(m, s, applied, plasma); len(l) != 0 || e != api.ErrInvalid {
			t.Errorf("%s: Induced by %v, %v = %v, %d", what, applied, plasma, l, e)
		}
	}
	changes := append(brokenChanges(), []int{api.MaxAmp + 1, 0}, []int{0, -api.MaxAmp - 1}, []int{0, api.MaxValue})
	for _, change := range changes {
		check("changes", toy(), busy(), change, busy().C.Plasma)
	}
	for _, cells := range brokenCells() {
		check("cells", toy(), busy(), []int{1, 2}, cells)
	}
	for what, s := range brokenStates() {
		check(what, toy(), s, []int{1, 2}, busy().C.Plasma)
	}
	for _, m := range brokenMachines() {
		check("machine", m, busy(), []int{1, 2}, busy().C.Plasma)
	}
}

// 3.1, 3.2: held against the chapter's words in big numbers
func TestTicks(t *testing.T) {
	r := rand.New(rand.NewSource(2))
	for range 1500 {
		m := some(r)
		s, d := someState(r, m), someDrive(r, m)
		l, e := circuit.Applied(m, s, d.Change)
		if e != api.OK {
			t.Fatalf("Applied: %d", e)
		}
		for i, c := range m.Coils {
			if want := modelApplied(c, s.C.Coils[i], s.Tripped[i], d.Change[i]); l[i] != want {
				t.Errorf("Applied of %d to %v at %v = %d, want %d", d.Change[i], c, s, l[i], want)
			}
		}
		n, e := circuit.Induced(m, s, l, d.Plasma)
		if e != api.OK {
			t.Fatalf("Induced: %d", e)
		}
		for i, shell := range m.Shells {
			if want := modelInduced(m, shell, s.C.Plasma, l, d.Plasma); want.Cmp(num(n[i])) != 0 {
				t.Errorf("Induced in %v = %d, want %d", shell, n[i], want)
			}
		}
		next, e := circuit.Step(m, s, d)
		if want := modelStep(m, s, d); e != api.OK || !circuit.Same(next, want) {
			t.Errorf("Step of %v, %v, %v = %v, %d, want %v", m, s, d, next, e, want)
		}
	}
}

// The greatest numbers of all do not wrap around.
func TestGreatest(t *testing.T) {
	m := toy()
	m.Coils = nil
	for i := range api.MaxCoils {
		m.Coils = append(m.Coils, api.Coil{Name: string(rune('a' + i)), Turns: 100, MaxCurrent: api.MaxAmp, MaxStep: api.MaxAmp, MaxHeat: 1})
	}
	for i := range m.Shells {
		m.Shells[i] = api.Shell{Self: 1 + i, Loss: 1000}
	}
	for _, sign := range []int{1, -1} {
		s, _ := circuit.Begin(m)
		d := api.Drive{Plasma: []int{0, 0, 0, 0, 0, api.MaxAmp}}
		for i := range m.Coils {
			s.Heat[i] = api.MaxValue
			d.Change = append(d.Change, sign*api.MaxValue)
		}
		next, e := circuit.Step(m, s, d)
		if want := modelStep(m, s, d); e != api.OK || !circuit.Same(next, want) || next.Heat[0] != api.MaxValue {
			t.Errorf("Step = %v, %d, want %v", next, e, want)
		}
	}
}

// 3.2, Examples: what a shell loses is rounded away from 0
func TestLost(t *testing.T) {
	for _, c := range []struct{ old, loss, want int }{
		{25, 100, 22}, {-25, 100, -22}, {0, 100, 0}, {1, 1, 0}, {-1, 1, 0}, {2, 1, 1}, {999, 1, 998}, {1000, 1, 999}, {1001, 1, 999}, {-1000, 1, -999}, {-1001, 1, -999},
		{1, 1000, 0}, {-7, 1000, 0}, {api.MaxAmp, 1000, 0}, {api.MaxAmp, 1, 999000}, {-api.MaxAmp, 1, -999000}, {api.MaxAmp, 999, 1000}, {10, 999, 0}, {3, 500, 1}, {20, 100, 18}, {-21, 100, -18},
	} {
		m, s := bare()
		m.Shells = []api.Shell{{Self: 1, Loss: c.loss}}
		s.C.Shells = []int{c.old}
		if next, e := circuit.Step(m, s, still(s)); e != api.OK || next.C.Shells[0] != c.want {
			t.Errorf("the current %d with Loss %d becomes %v, %d, want %d", c.old, c.loss, next.C.Shells, e, c.want)
		}
	}
}

// 3.2: the loss is of the old current, what is induced comes off, and the sum is cut to MaxAmp
func TestShell(t *testing.T) {
	for _, c := range []struct{ old, self, rise, want int }{
		// the cell at the shell's place has the influence 250000
		{100, 1000, 2, 90 - 500}, {100, 1000, -2, 90 + 500}, {-100, 1000, 2, -90 - 500}, {-100, 1000, -2, -90 + 500},
		{0, 300000, 1, 0}, {0, 300000, -1, 0}, {0, 240000, 1, -1}, {0, 240000, -1, 1},
		{api.MaxAmp, 1, -1, api.MaxAmp}, {-api.MaxAmp, 1, 1, -api.MaxAmp}, {0, 1, 4, -api.MaxAmp}, {0, 1, -4, api.MaxAmp}, {0, 1, 5, -api.MaxAmp}, {0, 1, -3, 750000},
		// the sum alone is cut
		{api.MaxAmp, 1, 5, 900000 - 1250000}, {-api.MaxAmp, 1, -5, -900000 + 1250000},
	} {
		m, s := bare()
		m.Shells = []api.Shell{{Self: c.self, Loss: 100}}
		s.C.Shells = []int{c.old}
		d := still(s)
		d.Plasma = []int{5 + c.rise}
		if next, e := circuit.Step(m, s, d); e != api.OK || next.C.Shells[0] != c.want || next.C.Plasma[0] != 5+c.rise {
			t.Errorf("%v: the state becomes %v, %d", c, next, e)
		}
	}
}

// 3.2, Examples: the new current heats
func TestHeat(t *testing.T) {
	for _, c := range []struct{ current, change, heat, cool, want int }{
		{2000, 0, 0, 1000, 3000}, {-2000, 0, 0, 1000, 3000}, {1900, 100, 0, 1000, 3000}, {2100, -100, 0, 1000, 3000}, {31, 0, 0, 0, 0}, {32, 0, 0, 0, 1}, {-44, 0, 7, 0, 8}, {-45, 0, 7, 0, 9},
		{0, 0, 100, 100, 0}, {0, 0, 100, 101, 0}, {0, 0, 100, 99, 1}, {100, 0, 5, 20, 0}, {100, 0, 15, 20, 5},
		{api.MaxAmp, 0, api.MaxValue, 0, api.MaxValue}, {api.MaxAmp, 0, api.MaxValue, 1e9, api.MaxValue}, {1000, 0, api.MaxValue - 999, 0, api.MaxValue}, {1000, 0, api.MaxValue - 999, 2, api.MaxValue - 1},
	} {
		m, s := lone(api.Coil{MaxCurrent: api.MaxAmp, MaxStep: 100, MaxHeat: 1e12, Cool: c.cool}, c.current, c.heat)
		d := still(s)
		d.Change = []int{c.change}
		if next, e := circuit.Step(m, s, d); e != api.OK || next.Heat[0] != c.want {
			t.Errorf("%v: the heat becomes %v, %d", c, next.Heat, e)
		}
	}
}

// 3.2: trips and releases, by the heat and the current behind the tick
func TestTrip(t *testing.T) {
	for _, c := range []struct {
		current int
		tripped bool
		heat    int
		want    bool
	}{
		{0, false, 3001, false}, {0, false, 3002, true}, {0, false, api.MaxValue, true}, {0, false, 0, false}, {0, false, 1600, false},
		{0, true, 1500, false}, {0, true, 1501, true}, {0, true, 0, false}, {0, true, 3001, true}, {0, true, 3002, true},
		// 60 is a step: 60 becomes 0 in the tick, 61 becomes 1
		{60, true, 1500, false}, {-60, true, 1500, false}, {61, true, 1500, true}, {-61, true, 0, true}, {60, true, 1501, true}, {60, false, 1500, false},
	} {
		m, s := lone(api.Coil{MaxCurrent: 800, MaxStep: 60, MaxHeat: 3001}, c.current, c.heat)
		s.Tripped[0] = c.tripped
		if next, e := circuit.Step(m, s, still(s)); e != api.OK || next.Tripped[0] != c.want {
			t.Errorf("%v: tripped becomes %v, %d", c, next.Tripped, e)
		}
	}
	// the least MaxHeat is halved to 0
	m, s := lone(api.Coil{MaxHeat: 1, Cool: 1}, 0, 2)
	s.Tripped[0] = true
	for _, want := range []bool{true, false} {
		if s, _ = circuit.Step(m, s, still(s)); s.Tripped[0] != want {
			t.Errorf("with the heat %d tripped is %t", s.Heat[0], s.Tripped[0])
		}
	}
}

// 3.2: a coil that trips keeps the change of that tick, and goes to 0 from the next one on until it is let go
func TestTripAndRelease(t *testing.T) {
	m, s := lone(api.Coil{MaxCurrent: 1000, MaxStep: 400, MaxHeat: 900, Cool: 300}, 900, 0)
	var currents, heats []int
	var trips []bool
	for range 8 {
		d := still(s)
		d.Change[0] = 50
		s, _ = circuit.Step(m, s, d)
		currents, heats, trips = append(currents, s.C.Coils[0]), append(heats, s.Heat[0]), append(trips, s.Tripped[0])
	}
	if !slices.Equal(currents, []int{950, 1000, 600, 200, 0, 0, 0, 50}) {
		t.Errorf("the currents are %v", currents)
	}
	if !slices.Equal(heats, []int{602, 1302, 1362, 1102, 802, 502, 202, 0}) {
		t.Errorf("the heats are %v", heats)
	}
	if !slices.Equal(trips, []bool{false, true, true, true, true, true, false, false}) {
		t.Errorf("the trips are %v", trips)
	}
}
