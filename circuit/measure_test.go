package circuit_test

import (
	"math"
	"math/rand"
	"slices"
	"testing"

	"shotdesk/api"
	"shotdesk/circuit"
)

// 3.3: the toy's heats are 1000 and 2000, and 50 and 40 of them go in a tick
func TestRest(t *testing.T) {
	for _, c := range []struct {
		heat []int
		want int
	}{
		{[]int{1000, 2000}, 0}, {[]int{math.MaxInt, math.MaxInt}, 0}, {[]int{999, 2000}, 1}, {[]int{950, 2000}, 1}, {[]int{949, 2000}, 2},
		{[]int{0, 2000}, 20}, {[]int{1000, 0}, 50}, {[]int{0, 0}, 50}, {[]int{0, 1200}, 20}, {[]int{0, 1199}, 21}, {[]int{1000, 1999}, 1}, {[]int{1001, 1}, 50},
	} {
		if n, e := circuit.Rest(toy(), busy(), c.heat); n != c.want || e != api.OK {
			t.Errorf("Rest for %v = %d, %d, want %d", c.heat, n, e, c.want)
		}
	}
	m, s := lone(api.Coil{MaxHeat: 1, Cool: 1}, 0, api.MaxValue)
	if n, e := circuit.Rest(m, s, []int{0}); n != api.MaxValue || e != api.OK {
		t.Errorf("Rest = %d, %d", n, e)
	}
	if n, e := circuit.Rest(m, s, []int{math.MaxInt}); n != 0 || e != api.OK {
		t.Errorf("Rest = %d, %d", n, e)
	}
	m, s = bare()
	if n, e := circuit.Rest(m, s, nil); n != 0 || e != api.OK {
		t.Errorf("Rest without coils = %d, %d", n, e)
	}
}

// 3.3: Rest uses no currents, no trips and no shells
func TestRestOfHeatAlone(t *testing.T) {
	s := busy()
	s.Tick, s.Tripped[0] = lastTick, true
	s.C.Coils[0], s.C.Shells[0] = api.MaxAmp, api.MaxAmp
	if n, e := circuit.Rest(toy(), s, []int{0, 2000}); n != 20 || e != api.OK {
		t.Errorf("Rest = %d, %d", n, e)
	}
}

// 3.3
func TestRestErrors(t *testing.T) {
	m, s := toy(), busy()
	m.Coils[0].Cool = 0
	for _, c := range []struct {
		heat []int
		want int
		e    api.Errno
	}{
		{[]int{1000, 0}, 50, api.OK}, {[]int{999, 2000}, 0, api.ErrNone}, {[]int{999, 0}, 0, api.ErrNone}, {[]int{999, -1}, 0, api.ErrRange}, {[]int{-1, 0}, 0, api.ErrRange},
		{[]int{1000, math.MinInt}, 0, api.ErrRange}, {[]int{999}, 0, api.ErrInvalid}, {[]int{-1}, 0, api.ErrInvalid}, {nil, 0, api.ErrInvalid}, {[]int{0, 0, -1}, 0, api.ErrInvalid},
	} {
		if n, e := circuit.Rest(m, s, c.heat); n != c.want || e != c.e {
			t.Errorf("Rest for %v = %d, %d, want %d, %d", c.heat, n, e, c.want, c.e)
		}
	}
	for _, heat := range [][]int{{0, 0}, {-1, 0}} {
		for what, s := range brokenStates() {
			if n, e := circuit.Rest(toy(), s, heat); n != 0 || e != api.ErrInvalid {
				t.Errorf("%s: Rest = %d, %d", what, n, e)
			}
		}
		for _, m := range brokenMachines() {
			if n, e := circuit.Rest(m, s, heat); n != 0 || e != api.ErrInvalid {
				t.Errorf("Rest = %d, %d", n, e)
			}
		}
	}
}

// 3.3
func TestSettle(t *testing.T) {
	for _, c := range []struct{ current, loss, want int }{
		{0, 1, 0}, {1, 1, 1}, {-1, 1000, 1}, {api.MaxAmp, 1000, 1}, {5, 1, 5}, {-5, 1, 5}, {1000, 1, 1000}, {1001, 1, 1000}, {25, 100, 16}, {-25, 100, 16}, {4, 500, 3},
	} {
		m, s := bare()
		m.Shells, s.C.Shells = []api.Shell{{Self: 1, Loss: c.loss}}, []int{c.current}
		if n, e := circuit.Settle(m, s); n != c.want || e != api.OK {
			t.Errorf("Settle of %d with Loss %d = %d, %d, want %d", c.current, c.loss, n, e, c.want)
		}
	}
	// the slowest shell counts, wherever it stands; nothing that moves elsewhere does
	s := busy()
	s.C.Shells[1] = 0
	if n, e := circuit.Settle(toy(), s); n != 16 || e != api.OK {
		t.Errorf("Settle = %d, %d", n, e)
	}
	s.C.Shells[1] = 1
	if n, e := circuit.Settle(toy(), s); n != 16 || e != api.OK {
		t.Errorf("Settle = %d, %d", n, e)
	}
	s.C.Shells[0], s.C.Shells[1] = 1, 3
	if n, e := circuit.Settle(toy(), s); n != 3 || e != api.OK {
		t.Errorf("Settle = %d, %d", n, e)
	}
	m, s := bare()
	if n, e := circuit.Settle(m, s); n != 0 || e != api.OK {
		t.Errorf("Settle without shells = %d, %d", n, e)
	}
}

// 3.3, 3.4
func TestMeasuresInvalid(t *testing.T) {
	check := func(what string, m api.Machine, s api.State) {
		if n, e := circuit.Settle(m, s); n != 0 || e != api.ErrInvalid {
			t.Errorf("%s: Settle = %d, %d", what, n, e)
		}
		if l, e := circuit.Margin(m, s); len(l) != 0 || e != api.ErrInvalid {
			t.Errorf("%s: Margin = %v, %d", what, l, e)
		}
		for _, l := range [][]api.State{{s}, {s, busy()}, {busy(), busy(), s}} {
			if n, e := circuit.Swing(m, l); n != 0 || e != api.ErrInvalid {
				t.Errorf("%s: Swing = %d, %d", what, n, e)
			}
		}
	}
	for what, s := range brokenStates() {
		check(what, toy(), s)
	}
	for _, m := range brokenMachines() {
		check("machine", m, busy())
		if n, e := circuit.Swing(m, nil); n != 0 || e != api.ErrInvalid {
			t.Errorf("Swing of nothing = %d, %d", n, e)
		}
	}
}

// 3.4: the toy's middle cell, 3 of 6, is at 10, 0: oh has the influence 1000000 / 104 = 9615 there with 2 turns, and up 1000000 / 68 = 14705 with 3
func TestSwing(t *testing.T) {
	at := func(oh, up int) api.State {
		s := busy()
		s.C.Coils = []int{oh, up}
		return s
	}
	for _, c := range []struct {
		l    []api.State
		want int
	}{
		{nil, 0}, {[]api.State{at(500, 500)}, 0}, {[]api.State{at(500, 500), at(500, 500)}, 0},
		{[]api.State{at(0, 0), at(1, 0)}, 19230}, {[]api.State{at(1, 0), at(0, 0)}, 19230}, {[]api.State{at(0, 0), at(0, 1)}, 44115}, {[]api.State{at(0, 0), at(1, -1)}, 44115 - 19230},
		{[]api.State{at(100, 0), at(107, 0), at(105, 0), at(105, 0), at(-5, 0)}, 119 * 19230}, {[]api.State{at(api.MaxAmp, 0), at(-api.MaxAmp, 0)}, 2 * api.MaxAmp * 19230},
	} {
		if n, e := circuit.Swing(toy(), c.l); n != c.want || e != api.OK {
			t.Errorf("Swing of %v = %d, %d, want %d", c.l, n, e, c.want)
		}
	}
	// of the coils alone
	a, b := at(10, 20), at(10, 20)
	b.Tick, b.C.Shells, b.C.Plasma, b.Heat = 99, []int{500, 600}, make([]int, 6), []int{0, 0}
	if n, e := circuit.Swing(toy(), []api.State{a, b}); n != 0 || e != api.OK {
		t.Errorf("Swing = %d, %d", n, e)
	}
}

// 3.4: the greatest swing of a run
func TestGreatestSwing(t *testing.T) {
	m, s := bare()
	for i := range api.MaxCoils {
		m.Coils = append(m.Coils, api.Coil{Name: string(rune('a' + i)), Turns: 100, MaxCurrent: api.MaxAmp, MaxStep: api.MaxAmp, MaxHeat: 1})
		s.C.Coils, s.Heat, s.Tripped = append(s.C.Coils, api.MaxAmp), append(s.Heat, 0), append(s.Tripped, false)
	}
	other := s
	other.C.Coils = slices.Repeat([]int{-api.MaxAmp}, api.MaxCoils)
	l := append(slices.Repeat([]api.State{s, other}, 5000), s)
	if n, e := circuit.Swing(m, l); n != 10000*2*12*100*api.MaxAmp*250000 || e != api.OK {
		t.Errorf("Swing = %d, %d", n, e)
	}
}

// 3.4
func TestMargin(t *testing.T) {
	if l, e := circuit.Margin(toy(), busy()); e != api.OK || !slices.Equal(l, []int{4000, 1001}) {
		t.Errorf("Margin = %v, %d", l, e)
	}
	s := busy()
	s.Heat = []int{5000, api.MaxValue}
	if l, e := circuit.Margin(toy(), s); e != api.OK || !slices.Equal(l, []int{0, 3001 - api.MaxValue}) {
		t.Errorf("Margin = %v, %d", l, e)
	}
	m, s := bare()
	if l, e := circuit.Margin(m, s); e != api.OK || len(l) != 0 {
		t.Errorf("Margin without coils = %v, %d", l, e)
	}
}

// heatAfter is a coil's heat after k ticks without currents.
func heatAfter(c api.Coil, heat, k int) int {
	if c.Cool > 0 && k > heat/c.Cool {
		return 0
	}
	return heat - k*c.Cool
}

// P3.5
func TestRestIsLeast(t *testing.T) {
	r := rand.New(rand.NewSource(6))
	for range 300 {
		m := some(r)
		s := someState(r, m)
		var heat []int
		for i := range m.Coils {
			heat = append(heat, upTo(r, s.Heat[i]+1))
		}
		cool := func(k int) bool {
			for i, c := range m.Coils {
				if heatAfter(c, s.Heat[i], k) > heat[i] {
					return false
				}
			}
			return true
		}
		want := api.OK
		for i, c := range m.Coils {
			if c.Cool == 0 && s.Heat[i] > heat[i] {
				want = api.ErrNone
			}
		}
		n, e := circuit.Rest(m, s, heat)
		if e != want || e != api.OK && n != 0 || e == api.OK && (!cool(n) || n > 0 && cool(n-1)) {
			t.Errorf("Rest of %v for %v = %d, %d", s.Heat, heat, n, e)
		}
	}
}

// P3.5: by ticks without currents
func TestRestByTicks(t *testing.T) {
	r := rand.New(rand.NewSource(7))
	for range 100 {
		m, s := lone(api.Coil{MaxHeat: 1e12, Cool: 1 + r.Intn(500)}, 0, r.Intn(100000))
		heat := r.Intn(s.Heat[0] + 1)
		n, _ := circuit.Rest(m, s, []int{heat})
		l, _ := circuit.Run(m, s, slices.Repeat([]api.Drive{still(s)}, min(n, 10000)))
		for k, x := range l {
			if (x.Heat[0] <= heat) != (k >= n) {
				t.Errorf("after %d of %d ticks the heat is %d of %d", k, n, x.Heat[0], heat)
			}
		}
	}
}

// P3.5
func TestSettleByTicks(t *testing.T) {
	r := rand.New(rand.NewSource(8))
	quiet := func(s api.State) bool { return !slices.ContainsFunc(s.C.Shells, func(n int) bool { return n != 0 }) }
	for range 60 {
		m, s := bare()
		for range 1 + r.Intn(4) {
			m.Shells = append(m.Shells, api.Shell{R: r.Intn(9), Self: 1 + r.Intn(9), Loss: 1 + upTo(r, 999)})
			s.C.Shells = append(s.C.Shells, signed(r, upTo(r, api.MaxAmp)))
		}
		n, e := circuit.Settle(m, s)
		if after, _ := circuit.Coast(m, s, n); e != api.OK || !quiet(after) {
			t.Errorf("after %d ticks the shells have %v", n, after.C.Shells)
		}
		if n == 0 {
			continue
		}
		if before, _ := circuit.Coast(m, s, n-1); quiet(before) {
			t.Errorf("of %v with %v the shells are quiet in less than %d ticks", s.C.Shells, m.Shells, n)
		}
	}
}
