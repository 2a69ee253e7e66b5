package circuit_test

import (
	"math"
	"math/rand"
	"slices"
	"testing"

	"shotdesk/api"
	"shotdesk/circuit"
)

// 3.2, by hand: each part of a tick of the toy
func TestStep(t *testing.T) {
	s, e := circuit.Step(toy(), busy(), push())
	want := api.State{
		Tick: 8,
		C: api.Currents{
			Coils: []int{230, -240},
			// of oh 30 amperes, of up 60; of the cells 6, 4, 2, 3, -18 and -39
			Shells: []int{
				25 - 3 - (30*2*34482+60*3*14492+6*11235+4*8264+2*6211+3*14492-18*9900-39*7092)/1000,
				-60 + 3 - (30*2*30303+60*3*6369+6*5076+4*4016+2*3236+3*5780-18*4444-39*3508)/700,
			},
			Plasma: []int{6, 5, 4, 33, 22, 11},
		},
		Heat:    []int{1000 + 52 - 50, 2000 + 57 - 40},
		Tripped: []bool{false, true},
	}
	if e != api.OK || !circuit.Same(s, want) {
		t.Errorf("Step = %v, %d, want %v", s, e, want)
	}
	m, s := bare()
	if s, e := circuit.Step(m, s, api.Drive{Plasma: []int{9}}); e != api.OK || !circuit.Same(s, api.State{Tick: 1, C: api.Currents{Plasma: []int{9}}}) {
		t.Errorf("Step of the bare machine = %v, %d", s, e)
	}
}

// brokenDrives are not valid for the toy.
func brokenDrives() []api.Drive {
	l := []api.Drive{{}}
	for _, change := range brokenChanges() {
		l = append(l, api.Drive{Change: change, Plasma: push().Plasma})
	}
	for _, cells := range brokenCells() {
		l = append(l, api.Drive{Change: push().Change, Plasma: cells})
	}
	return l
}

// invalid calls all that moves a state, with a tick or a number that would be out of range too.
func invalid(t *testing.T, what string, m api.Machine, s api.State) {
	t.Helper()
	for _, d := range []api.Drive{push(), {}} {
		if s, e := circuit.Step(m, s, d); e != api.ErrInvalid || !zero(s) {
			t.Errorf("%s: Step = %v, %d", what, s, e)
		}
	}
	for _, n := range []int{0, 1, 10001, -1} {
		if s, e := circuit.Coast(m, s, n); e != api.ErrInvalid || !zero(s) {
			t.Errorf("%s: Coast = %v, %d", what, s, e)
		}
	}
	if s, e := circuit.Quench(m, s); e != api.ErrInvalid || !zero(s) {
		t.Errorf("%s: Quench = %v, %d", what, s, e)
	}
	for _, drives := range [][]api.Drive{nil, {push()}, {push(), {}}, make([]api.Drive, 10001)} {
		if l, e := circuit.Run(m, s, drives); e != api.ErrInvalid || len(l) != 0 {
			t.Errorf("%s: Run = %v, %d", what, l, e)
		}
	}
}

// 3.2
func TestMovesInvalid(t *testing.T) {
	for what, s := range brokenStates() {
		invalid(t, what, toy(), s)
	}
	late := busy()
	late.Tick = lastTick
	for _, m := range brokenMachines() {
		invalid(t, "machine", m, busy())
		invalid(t, "machine", m, late)
	}
	for _, d := range brokenDrives() {
		for _, s := range []api.State{busy(), late} {
			if s, e := circuit.Step(toy(), s, d); e != api.ErrInvalid || !zero(s) {
				t.Errorf("Step by %v = %v, %d", d, s, e)
			}
			long := slices.Repeat([]api.Drive{push()}, 10001)
			for _, at := range []int{0, 10000} {
				drives := slices.Clone(long)
				drives[at] = d
				if l, e := circuit.Run(toy(), s, drives); e != api.ErrInvalid || len(l) != 0 {
					t.Errorf("Run by %v = %v, %d", d, l, e)
				}
			}
			if l, e := circuit.Run(toy(), s, []api.Drive{push(), d}); e != api.ErrInvalid || len(l) != 0 {
				t.Errorf("Run by %v = %v, %d", d, l, e)
			}
		}
	}
}

// 3.2: drives with the greatest numbers that are valid
func TestDriveEnds(t *testing.T) {
	for _, d := range []api.Drive{
		{Change: []int{api.MaxValue, -api.MaxValue}, Plasma: make([]int, 6)},
		{Change: []int{0, 0}, Plasma: []int{0, 0, api.MaxAmp, 0, 0, 0}},
		{Change: []int{0, 0}, Plasma: []int{1, 2, api.MaxAmp - 6, 3, 0, 0}},
	} {
		if s, e := circuit.Step(toy(), busy(), d); e != api.OK || !circuit.Same(s, modelStep(toy(), busy(), d)) {
			t.Errorf("Step by %v = %v, %d", d, s, e)
		}
	}
}

// 3.2: the last tick of all
func TestLastTick(t *testing.T) {
	for _, c := range []struct {
		tick, n int
		e       api.Errno
	}{
		{lastTick, 0, api.OK}, {lastTick, 1, api.ErrRange}, {lastTick - 1, 1, api.OK}, {lastTick - 1, 2, api.ErrRange}, {lastTick - 10000, 10000, api.OK},
		{lastTick - 9999, 10000, api.ErrRange}, {0, 10000, api.OK}, {0, 0, api.OK},
	} {
		s := busy()
		s.Tick = c.tick
		if x, e := circuit.Coast(toy(), s, c.n); e != c.e || e == api.OK && x.Tick != c.tick+c.n || e != api.OK && !zero(x) {
			t.Errorf("%v: Coast = %v, %d", c, x, e)
		}
		drives := slices.Repeat([]api.Drive{push()}, c.n)
		if l, e := circuit.Run(toy(), s, drives); e != c.e || e == api.OK && len(l) != c.n+1 || e != api.OK && len(l) != 0 {
			t.Errorf("%v: Run has %d states, %d", c, len(l), e)
		}
		if c.n != 1 {
			continue
		}
		if x, e := circuit.Step(toy(), s, push()); e != c.e || e == api.OK && x.Tick != lastTick || e != api.OK && !zero(x) {
			t.Errorf("%v: Step = %v, %d", c, x, e)
		}
		if x, e := circuit.Quench(toy(), s); e != c.e || e == api.OK && x.Tick != lastTick || e != api.OK && !zero(x) {
			t.Errorf("%v: Quench = %v, %d", c, x, e)
		}
	}
}

// 3.2: Run tells the tick before the number of drives, and Coast takes 10,000 ticks at most
func TestLong(t *testing.T) {
	s := busy()
	long := slices.Repeat([]api.Drive{push()}, 10001)
	if l, e := circuit.Run(toy(), s, long); e != api.ErrLimit || len(l) != 0 {
		t.Errorf("Run = %d states, %d", len(l), e)
	}
	s.Tick = lastTick - 10001
	if l, e := circuit.Run(toy(), s, long); e != api.ErrLimit || len(l) != 0 {
		t.Errorf("Run = %d states, %d", len(l), e)
	}
	s.Tick++
	if l, e := circuit.Run(toy(), s, long); e != api.ErrRange || len(l) != 0 {
		t.Errorf("Run = %d states, %d", len(l), e)
	}
	for _, n := range append([]int{-1, 10001, math.MaxInt - 7}, wild...) {
		if s, e := circuit.Coast(toy(), busy(), n); e != api.ErrRange || !zero(s) {
			t.Errorf("Coast by %d = %v, %d", n, s, e)
		}
	}
}

// 3.2
func TestRun(t *testing.T) {
	r := rand.New(rand.NewSource(3))
	for range 100 {
		m := some(r)
		s, drives := someState(r, m), someDrives(r, m, r.Intn(20))
		l, e := circuit.Run(m, s, drives)
		if e != api.OK || len(l) != len(drives)+1 {
			t.Fatalf("Run by %d drives has %d states, %d", len(drives), len(l), e)
		}
		for i, x := range l {
			if !circuit.Same(x, s) {
				t.Errorf("Run's state %d = %v, want %v", i, x, s)
			}
			if i < len(drives) {
				s = modelStep(m, s, drives[i])
			}
		}
	}
	if l, e := circuit.Run(toy(), busy(), nil); e != api.OK || len(l) != 1 || !circuit.Same(l[0], busy()) {
		t.Errorf("Run by nothing = %v, %d", l, e)
	}
}

// 3.2
func TestCoast(t *testing.T) {
	r := rand.New(rand.NewSource(4))
	for range 100 {
		m := some(r)
		s := someState(r, m)
		for n := range 12 {
			x, e := circuit.Coast(m, s, n)
			want := s
			for range n {
				want = modelStep(m, want, still(want))
			}
			if e != api.OK || !circuit.Same(x, want) {
				t.Errorf("Coast by %d = %v, %d, want %v", n, x, e, want)
			}
		}
	}
}

// 3.2
func TestQuench(t *testing.T) {
	r := rand.New(rand.NewSource(5))
	for range 100 {
		m := some(r)
		s := someState(r, m)
		d := still(s)
		d.Plasma = make([]int, len(s.C.Plasma))
		if x, e := circuit.Quench(m, s); e != api.OK || !circuit.Same(x, modelStep(m, s, d)) {
			t.Errorf("Quench = %v, %d", x, e)
		}
	}
	// a cell of 1000 amperes at 10, -2 has the influence 11235 on the shell at 3, 4, and 5076 on that at -2, 5
	s, _ := circuit.Begin(toy())
	s.C.Plasma[0] = 1000
	s, e := circuit.Quench(toy(), s)
	want := api.State{Tick: 1, C: api.Currents{Coils: []int{0, 0}, Shells: []int{11235, 7251}, Plasma: make([]int, 6)}, Heat: []int{0, 0}, Tripped: []bool{false, false}}
	if e != api.OK || !circuit.Same(s, want) {
		t.Errorf("Quench = %v, %d, want %v", s, e, want)
	}
}
