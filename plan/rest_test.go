package plan_test

import (
	"math/rand"
	"slices"
	"testing"

	"shotdesk/api"
	"shotdesk/circuit"
	"shotdesk/plan"
)

// 9.5
func TestRested(t *testing.T) {
	m := toy()
	s := busy()
	s.Tripped = []bool{true, true}
	quiet := func(tick, first, second int) api.State {
		return api.State{Tick: tick, C: api.Currents{Coils: []int{0, 0}, Shells: []int{0, 0}, Plasma: make([]int, 6)}, Heat: []int{first, second}, Tripped: []bool{false, false}}
	}
	for k, want := range map[int]api.State{
		0: quiet(7, 1000, 2000), 1: quiet(8, 950, 1960), 3: quiet(10, 850, 1880), 19: quiet(26, 50, 1240), 20: quiet(27, 0, 1200), 21: quiet(28, 0, 1160),
		49: quiet(56, 0, 40), 50: quiet(57, 0, 0), 51: quiet(58, 0, 0), 100000: quiet(100007, 0, 0), lastTick - 7: quiet(lastTick, 0, 0),
	} {
		is(t, "Rested", want)(plan.Rested(m, s, k))
	}
	s.Tick = 0
	is(t, "Rested for as long as can be", quiet(lastTick, 0, 0))(plan.Rested(m, s, lastTick))
	// a coil that does not cool, one that was hotter than it may be, and the greatest numbers
	m.Coils[0].Cool, m.Coils[1].Cool = 0, 1e9
	s.Heat = []int{api.MaxValue, api.MaxValue}
	is(t, "Rested of great heats", quiet(3, api.MaxValue, api.MaxValue-3e9))(plan.Rested(m, s, 3))
	is(t, "Rested of great heats", quiet(1e6, api.MaxValue, 0))(plan.Rested(m, s, 1e6))
	is(t, "Rested of great heats", quiet(lastTick, api.MaxValue, 0))(plan.Rested(m, s, lastTick))
}

// 9.5
func TestRestedErrors(t *testing.T) {
	m := toy()
	for _, k := range append([]int{-1, lastTick + 1, lastTick, lastTick - 6}, wild...) {
		fails[api.State](t, "Rested for a wrong time", api.ErrRange)(plan.Rested(m, busy(), k))
		for what, s := range wrongStates() {
			fails[api.State](t, "Rested of "+what, api.ErrInvalid)(plan.Rested(m, s, k))
			fails[api.State](t, "Rested of "+what, api.ErrInvalid)(plan.Rested(m, s, 0))
		}
	}
	last := busy()
	last.Tick = lastTick
	fails[api.State](t, "Rested behind the last tick", api.ErrRange)(plan.Rested(m, last, 1))
	if _, e := plan.Rested(m, last, 0); e != api.OK {
		t.Errorf("Rested of the last tick = %d", e)
	}
	for _, f := range nameFlaws()[:7] {
		m := toy()
		f.make(&m, &api.Plan{})
		fails[api.State](t, "Rested with "+f.what, api.ErrInvalid)(plan.Rested(m, busy(), 3))
	}
}

// 9.5, circuit.Rest: rest cools as the circuits do without currents
func TestRestIsCool(t *testing.T) {
	r := rand.New(rand.NewSource(6))
	for range 500 {
		m := some(r)
		s := someState(r, m)
		k := r.Intn(60)
		rested, e := plan.Rested(m, s, k)
		if e != api.OK || !circuit.ValidState(m, rested) {
			t.Fatalf("Rested = %v, %d", rested, e)
		}
		first, _ := plan.Rested(m, s, 0)
		is(t, "Rested of what has rested", rested)(plan.Rested(m, first, k))
		coasted, e := circuit.Coast(m, first, k)
		if e != api.OK || !slices.Equal(coasted.Heat, rested.Heat) || coasted.Tick != rested.Tick {
			t.Errorf("after %d ticks of rest the heats are %v, and of no currents %v", k, rested.Heat, coasted.Heat)
		}
	}
}

// breaksHeat reports whether the rehearsal after k ticks of rest has a break heat, when others are none.
func breaksHeat(t *testing.T, m api.Machine, p api.Plan, s api.State, k int) bool {
	t.Helper()
	p.Safety, p.Purse = api.Safety{Shell: api.MaxAmp, Force: api.MaxValue}, api.MaxValue
	rested, e := plan.Rested(m, s, k)
	if e != api.OK {
		t.Fatalf("Rested = %d", e)
	}
	_, broken, e := plan.Rehearse(m, p, rested)
	if e != api.OK || broken.Tick >= 0 && broken.What != "heat" {
		t.Fatalf("Rehearse = %v, %d", broken, e)
	}
	return broken.Tick >= 0
}

// 9.5, P9.4: the least rest of random plans, and that more of it does no harm
func TestRandomWaits(t *testing.T) {
	r := rand.New(rand.NewSource(7))
	cases := map[string]int{}
	for range 1500 {
		m := some(r)
		p, s := somePlan(r, m), someState(r, m)
		// other breaks do not matter
		p.Safety, p.Purse = api.Safety{Shell: r.Intn(2) * 100, Force: r.Intn(2) * 100}, r.Intn(2)*1000
		k, e := plan.Wait(m, p, s)
		switch {
		case e == api.ErrNone:
			cases["none"]++
			same(t, "Wait with ErrNone", k, 0)
			same(t, "a break after the longest rest", breaksHeat(t, m, p, s, lastTick-p.Ticks-s.Tick), true)
		case e != api.OK:
			t.Fatalf("Wait = %d", e)
		case k == 0:
			cases["no rest"]++
		default:
			cases["rest"]++
			for _, less := range []int{k - 1, k / 2, 0} {
				same(t, "a break after less rest", breaksHeat(t, m, p, s, less), true)
			}
		}
		if e == api.OK {
			for _, more := range []int{k, k + 1, 2*k + 5, lastTick - p.Ticks - s.Tick} {
				same(t, "a break after enough rest", breaksHeat(t, m, p, s, more), false)
			}
		}
	}
	enough(t, cases, 150, "none", "no rest", "rest")
}

// 9.5: by hand
func TestWait(t *testing.T) {
	m, p, s := heater()
	m.Coils[0].Cool = 7
	// the heats rise by 3, 33, 83 and 153
	m.Coils[0].MaxHeat = 300
	for heat, want := range map[int]int{0: 0, 27: 0, 28: 0, 29: 1, 35: 1, 36: 2, 300: 39, 28 + 7000: 1000, 28 + 7001: 1001, 28 + 1e9: 142857143} {
		p.Ticks, s.Heat[0] = 4, heat
		is(t, "Wait", want)(plan.Wait(m, p, s))
	}
	// currents and trips do not matter, and other breaks do not either
	s.C.Coils[0], s.Tripped[0], s.Heat[0] = 999, true, 36
	is(t, "Wait of a tripped coil", 2)(plan.Wait(m, p, s))
	p.Safety, p.Purse = api.Safety{}, 0
	is(t, "Wait with other breaks", 2)(plan.Wait(m, p, s))
	// what cools down during the rehearsal
	p.Waves[0].Corners = corners(0, 0, 4, 0, 7, 300)
	p.Ticks = 3
	s.Heat[0] = 320
	is(t, "Wait for a late wave", 2)(plan.Wait(m, p, s))
	p.Ticks = 7
	// four ticks take 7 each, the last ones bring 3, 33 and 83
	for heat, want := range map[int]int{0: 0, 20: 0, 209: 0, 210: 1, 216: 1, 217: 2, 300: 13} {
		s.Heat[0] = heat
		is(t, "Wait for a late wave", want)(plan.Wait(m, p, s))
	}
	p.Waves = nil
	s.Heat[0] = api.MaxValue
	fails[int](t, "Wait of too much", api.ErrNone)(plan.Wait(m, p, s))
	m.Coils[0].Cool = 1e7
	is(t, "Wait of much", 99999999)(plan.Wait(m, p, s))
}

// 9.5 and Details: no rest is long enough
func TestNoWait(t *testing.T) {
	m, p, s := heater()
	fails[int](t, "Wait of a plan that is too hot from cold", api.ErrNone)(plan.Wait(m, p, s))
	m.Coils[0].MaxHeat, p.Ticks = 300, 4
	is(t, "Wait of a cold coil that does not cool", 0)(plan.Wait(m, p, s))
	s.Heat[0] = 1
	fails[int](t, "Wait of a coil that does not cool", api.ErrNone)(plan.Wait(m, p, s))
	// a rest that leaves no ticks for the rehearsal does not count
	m.Coils[0].Cool = 7
	s.Heat[0] = 28 + 700
	for tick, want := range map[int]int{0: 100, 5: 100, lastTick - 104: 100} {
		s.Tick = tick
		is(t, "Wait", want)(plan.Wait(m, p, s))
	}
	for _, tick := range []int{lastTick - 103, lastTick - 50, lastTick - 4, lastTick - 3, lastTick} {
		s.Tick = tick
		fails[int](t, "Wait too late", api.ErrNone)(plan.Wait(m, p, s))
	}
	s.Heat[0] = 0
	s.Tick = lastTick - 4
	is(t, "Wait just in time", 0)(plan.Wait(m, p, s))
	for _, tick := range []int{lastTick - 3, lastTick} {
		s.Tick = tick
		fails[int](t, "Wait too late for any rehearsal", api.ErrNone)(plan.Wait(m, p, s))
	}
	m, p, s = bare()
	is(t, "Wait without coils", 0)(plan.Wait(m, p, s))
	s.Tick = lastTick - 1
	is(t, "Wait without coils", 0)(plan.Wait(m, p, s))
	s.Tick = lastTick
	fails[int](t, "Wait without coils, too late", api.ErrNone)(plan.Wait(m, p, s))
}

// 9.5
func TestWaitErrors(t *testing.T) {
	m, p := toy(), demo()
	for what, s := range wrongStates() {
		fails[int](t, "Wait of "+what, api.ErrInvalid)(plan.Wait(m, p, s))
	}
	for _, f := range flaws() {
		m, p := toy(), demo()
		f.make(&m, &p)
		fails[int](t, "Wait with "+f.what, f.e)(plan.Wait(m, p, busy()))
		fails[int](t, "Wait with "+f.what+" and no state", f.e)(plan.Wait(m, p, api.State{}))
	}
	is(t, "Wait of the demo", 0)(plan.Wait(m, p, begin(t, m)))
}
