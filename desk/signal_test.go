package desk_test

import (
	"testing"

	"shotdesk/api"
	"shotdesk/desk"
)

// busy is a state of the toy in which nothing is 0.
func busy() api.State {
	return api.State{
		Tick:    70,
		C:       api.Currents{Coils: []int{200, -300}, Shells: []int{25, -60}, Plasma: []int{1, 2, 3, 30, 40, 50}},
		Heat:    []int{1000, 301},
		Tripped: []bool{false, true},
	}
}

// seen is a tick's record with all that signals tell.
func seen() api.Tick {
	return api.Tick{
		Blame: 2, Known: true, Kept: []api.Truth{api.No, api.Yes, api.Maybe, api.No, api.Maybe, api.No}, Mode: 3,
		Shape: api.Shape{Radius: sp(1, 2), Height: sp(-3, 4), Area: sp(5, 6), Top: sp(-7, 8), Bottom: sp(-9, -8), Inner: sp(10, 11), Outer: sp(12, 13), Lift: sp(-15, -14)},
	}
}

// points returns signals that are points.
func points(names []string, numbers ...int) []api.Signal {
	var l []api.Signal
	for i, name := range names {
		l = append(l, api.Signal{Name: name, Value: sp(numbers[i], numbers[i])})
	}
	return l
}

var always = []string{"tick", "current", "blame", "shell", "heat", "broken", "doubtful"}

// 10.2
func TestSignals(t *testing.T) {
	// 1,000 of 100,000 are 10 thousandths, 301 of 30,001 are 11, rounded up
	first := points(always, 5, 126, 2, 60, 11, 3, 2)
	known := []api.Signal{
		{Name: "radius", Value: sp(1, 2)}, {Name: "height", Value: sp(-3, 4)}, {Name: "area", Value: sp(5, 6)}, {Name: "top", Value: sp(-7, 8)},
		{Name: "bottom", Value: sp(-9, -8)}, {Name: "inner", Value: sp(10, 11)}, {Name: "outer", Value: sp(12, 13)}, {Name: "lift", Value: sp(-15, -14)},
	}
	gives(t, "Signals", desk.Signals(toy(), busy(), seen(), 5), append(first, known...))
	k := seen()
	k.Known = false
	gives(t, "Signals of what is not known", desk.Signals(toy(), busy(), k, 5), first)
	gives(t, "Signals of nothing", desk.Signals(tiny(), begun(t, tiny()), api.Tick{}, 0), points(always, 0, 0, 0, 0, 0, 0, 0))
	// what else is in a record does not matter
	k.Readings, k.Box, k.Mode, k.Wish, k.Order = []api.Span{sp(1, 2)}, []api.Span{sp(3, 4)}, -1, []int{5}, api.Order{Change: []int{6}, Share: -1}
	gives(t, "Signals of a full record", desk.Signals(toy(), busy(), k, 5), first)
	k.Kept = nil
	gives(t, "Signals without bounds", desk.Signals(toy(), busy(), k, 400), points(always, 400, 126, 2, 60, 11, 0, 0))
}

// 10.2: the greatest shell is that with the greatest absolute current
func TestShellSignal(t *testing.T) {
	for _, x := range []struct{ a, b, want int }{{0, 0, 0}, {1, 0, 1}, {0, -1, 1}, {-5, 4, 5}, {-4, 5, 5}, {-7, -9, 9}, {-9, -7, 9}, {api.MaxAmp, -3, api.MaxAmp}, {3, -api.MaxAmp, api.MaxAmp}} {
		s := busy()
		s.C.Shells = []int{x.a, x.b}
		same(t, "shell", desk.Signals(toy(), s, seen(), 0)[3], api.Signal{Name: "shell", Value: sp(x.want, x.want)})
	}
	same(t, "shell without shells", desk.Signals(tiny(), begun(t, tiny()), api.Tick{}, 0)[3], api.Signal{Name: "shell"})
}

// 10.2: the heat is rounded up and cut
func TestHeatSignal(t *testing.T) {
	for _, x := range []struct{ heat, most, want int }{
		{0, 1, 0}, {1, 1, 1000}, {1, 1000, 1}, {1, 1001, 1}, {1, 999, 2}, {1, 1000000000000, 1}, {7, 3, 2334}, {6, 3, 2000}, {1000, 1000000, 1}, {1001, 1000000, 2}, {999, 1000000, 1},
		{api.MaxValue, 1, api.MaxValue}, {api.MaxValue, 999, api.MaxValue}, {api.MaxValue, 1000, api.MaxValue}, {api.MaxValue, 1001, 999000999001000}, {api.MaxValue - 1, 1000, api.MaxValue - 1}, {1000000000001, 1, api.MaxValue}, {1000000000000, 1, api.MaxValue}, {999999999999, 1, 999999999999000},
		{api.MaxValue, 1000000000000, 1000000}, {999999999999, 1000000000000, 1000},
	} {
		m := tiny()
		m.Coils[0].MaxHeat = x.most
		s := begun(t, m)
		s.Heat[0] = x.heat
		same(t, "heat", desk.Signals(m, s, api.Tick{}, 0)[4], api.Signal{Name: "heat", Value: sp(x.want, x.want)})
	}
	for _, x := range []struct{ a, b, want int }{{0, 0, 0}, {5000, 0, 50}, {0, 3000, 100}, {50000, 3000, 500}, {5000, 3000, 100}} {
		s := busy()
		s.Heat = []int{x.a, x.b}
		same(t, "heat of two coils", desk.Signals(toy(), s, api.Tick{}, 0)[4], api.Signal{Name: "heat", Value: sp(x.want, x.want)})
	}
	m := tiny()
	m.Coils = nil
	same(t, "heat without coils", desk.Signals(m, begun(t, m), api.Tick{}, 0)[4], api.Signal{Name: "heat"})
}

// 10.2, Details: no machine or no state, no signals
func TestNoSignals(t *testing.T) {
	for _, m := range brokenMachines() {
		gives(t, "Signals without a machine", desk.Signals(m, busy(), seen(), 5), nil)
	}
	for what, s := range wrongStates() {
		if l := desk.Signals(toy(), s, seen(), 5); len(l) != 0 {
			t.Errorf("Signals of a state with %s = %v", what, l)
		}
	}
}

// wrongStates are not valid for the toy.
func wrongStates() map[string]api.State {
	l := map[string]api.State{"nothing": {}}
	change := func(what string, do func(s *api.State)) {
		s := busy()
		do(&s)
		l[what] = s
	}
	change("a coil too few", func(s *api.State) { s.C.Coils = s.C.Coils[:1] })
	change("a shell too many", func(s *api.State) { s.C.Shells = append(s.C.Shells, 0) })
	change("a cell too few", func(s *api.State) { s.C.Plasma = s.C.Plasma[:5] })
	change("no heats", func(s *api.State) { s.Heat = nil })
	change("a trip too many", func(s *api.State) { s.Tripped = append(s.Tripped, false) })
	change("a heat below 0", func(s *api.State) { s.Heat[0] = -1 })
	change("a cell below 0", func(s *api.State) { s.C.Plasma[0] = -1 })
	change("too large a sum", func(s *api.State) { s.C.Plasma[0] = api.MaxAmp })
	change("a tick below 0", func(s *api.State) { s.Tick = -1 })
	change("too late a tick", func(s *api.State) { s.Tick = lastTick + 1 })
	for _, n := range wild {
		change("a wild tick", func(s *api.State) { s.Tick = n })
		change("a wild coil", func(s *api.State) { s.C.Coils[1] = n })
		change("a wild heat", func(s *api.State) { s.Heat[1] = n })
		change("a wild cell", func(s *api.State) { s.C.Plasma[1] = n })
	}
	return l
}
