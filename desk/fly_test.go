package desk_test

import (
	"slices"
	"testing"

	"shotdesk/api"
	"shotdesk/desk"
	"shotdesk/guard"
	"shotdesk/sense"
)

// lonely is the tiny machine without its coil.
func lonely() api.Machine {
	m := tiny()
	m.Coils = nil
	return m
}

// remote is the tiny machine with its coil far away, where it has little flux.
func remote() api.Machine {
	m := tiny()
	m.Coils[0].R, m.Coils[0].Z = 60, 0
	return m
}

// from is a rule that the mode is at least so much from a tick on.
func from(tick, mode int) []api.Rule {
	return []api.Rule{{Name: "late", When: api.Cond{Op: api.CMore, Name: "tick", N: tick - 1}, For: 1, Mode: mode}}
}

// column returns a number of each of some things.
func column[T any](l []T, number func(T) int) []int {
	var out []int
	for _, x := range l {
		out = append(out, number(x))
	}
	return out
}

func totals(l []api.State) []int {
	return column(l, func(s api.State) int { return s.C.Plasma[0] })
}

func coils(l []api.State) []int {
	return column(l, func(s api.State) int { return s.C.Coils[0] })
}

func wishes(h api.Shot) []int { return column(h.Ticks, func(k api.Tick) int { return k.Wish[0] }) }

func modes(h api.Shot) []int { return column(h.Ticks, func(k api.Tick) int { return k.Mode }) }

func shares(h api.Shot) []int { return column(h.Ticks, func(k api.Tick) int { return k.Order.Share }) }

// 10.2: a whole record
func TestRecord(t *testing.T) {
	p := simple(6, 0, 0, 2, 100, 3, 3, 4, 50)
	p.Bounds = []api.Bound{{Kind: api.BRadius}, {Kind: api.BArea, Keep: sp(2, 5)}, {Kind: api.BLift, Keep: sp(-1, 1)}}
	b := begun(t, lonely())
	b.Tick, b.C.Plasma[0] = 70, 500
	h := fly(t, lonely(), idle(lonely()), api.Scene{}, p, b)
	want := api.Shot{Plan: p, Begin: api.State{Tick: 70, C: api.Currents{Plasma: []int{0}}}, End: api.State{Tick: 76, C: api.Currents{Plasma: []int{50}}}}
	for _, total := range []int{0, 50, 100, 3, 50, 50} {
		k := api.Tick{Kept: []api.Truth{api.Maybe, api.Maybe, api.Maybe}, Order: api.Order{Share: 8}}
		if total > 5 {
			k.Known, k.Box, k.Kept = true, []api.Span{sp(total, total)}, []api.Truth{api.Yes, api.No, api.Yes}
			k.Shape.Area = sp(1, 1)
		}
		want.Ticks = append(want.Ticks, k)
	}
	gives(t, "Fly", h, want)
	same(t, "the argument's plasma", b.C.Plasma[0], 500)
}

// 10.2, step 1: the readings are those of the scene at the plan's tick
func TestReadings(t *testing.T) {
	b := begun(t, toy())
	b.Tick = 1000
	h := fly(t, toy(), keen(), stormy(), demo(), b)
	l := states(t, toy(), stormy(), h)
	for i, k := range h.Ticks {
		is(t, "Read", k.Readings)(sense.Read(toy(), l[i].C, stormy(), i))
		blame, _ := sense.Accuse(toy(), l[i].C, k.Readings)
		same(t, "Blame", k.Blame, len(blame.Lying))
	}
	// two faults, and from the tick 2 on the plasma is too large for a filament
	gives(t, "blames", column(h.Ticks, func(k api.Tick) int { return k.Blame })[:6], []int{0, 0, 1, 1, 2, 2})
}

// 10.2, step 6: the plan's changes and what the controller adds
func TestWishes(t *testing.T) {
	p := simple(8, 0, 0, 1, 20)
	p.Waves = []api.Wave{{Coil: "a", Corners: corners(0, 0, 4, 40, 8, 0)}}
	x := api.Setup{Gains: []api.Gain{{R: 500, SumR: 200}}, Most: 250}
	h := fly(t, tiny(), x, api.Scene{}, p, begun(t, tiny()))
	gives(t, "wishes without an aim", wishes(h), []int{10, 10, 10, 10, -10, -10, -10, -10})
	p.Aims = []api.Aim{{At: 2, Goal: api.Goal{R: 100}}}
	h = fly(t, tiny(), x, api.Scene{}, p, begun(t, tiny()))
	// the sums of the proved errors are 100, 200 and then 250
	gives(t, "wishes with an aim", wishes(h), []int{10, 10, 80, 30, 0, -10, -10, -10})
	gives(t, "currents with an aim", coils(states(t, tiny(), api.Scene{}, h)), []int{0, 10, 20, 100, 130, 130, 120, 110, 100})
	p.Aims = append(p.Aims, api.Aim{At: 4, Goal: api.Goal{R: -100}})
	h = fly(t, tiny(), x, api.Scene{}, p, begun(t, tiny()))
	// the sums are 100, 200, 100, 0, -100, -200: the wishes 70, 90, -30, -50, -70, -90
	gives(t, "wishes with two aims", wishes(h), []int{10, 10, 80, 30, -100, -60, -30, -30})
	gives(t, "orders with two aims", column(h.Ticks, func(k api.Tick) int { return k.Order.Change[0] }), wishes(h))
}

// 10.2, Details: the cut is made only where the controller adds something
func TestCutWishes(t *testing.T) {
	b := begun(t, remote())
	b.C.Coils[0] = 1000
	p := simple(3, 0, 0, 1, 20)
	x := api.Setup{Gains: []api.Gain{{R: 1000}}, Most: 250}
	gives(t, "wishes without an aim", wishes(fly(t, remote(), x, api.Scene{}, p, b)), []int{-1000, -900, -800})
	p.Aims = []api.Aim{{Goal: api.Goal{R: 40}}}
	gives(t, "wishes with an aim", wishes(fly(t, remote(), x, api.Scene{}, p, b)), []int{-1000, -100, -100})
	b.C.Coils[0] = -1000
	gives(t, "wishes with an aim", wishes(fly(t, remote(), x, api.Scene{}, p, b)), []int{1000, 100, 100})
	x.Gains[0].R = 0
	gives(t, "wishes of an idle controller", wishes(fly(t, remote(), x, api.Scene{}, p, b)), []int{1000, 100, 100})
	// the controller's wish is cut before it is added, too
	b.C.Coils[0], x.Gains[0].R, p.Aims[0].Goal.R = 30, 1000, 60000
	gives(t, "wishes of a strong controller", wishes(fly(t, remote(), x, api.Scene{}, p, b)), []int{-30, 100, 0})
	b.C.Coils[0] = -30
	gives(t, "wishes of a strong controller", wishes(fly(t, remote(), x, api.Scene{}, p, b)), []int{30, 100, 0})
}

// 10.2, Details: while nothing is known, the memory stays as it is
func TestMemory(t *testing.T) {
	p := simple(7, 0, 0, 1, 20, 3, 20, 4, 3, 5, 20)
	p.Aims = []api.Aim{{Goal: api.Goal{R: 100}}}
	x := api.Setup{Gains: []api.Gain{{SumR: 100}}, Most: 1000}
	h := fly(t, remote(), x, api.Scene{}, p, begun(t, remote()))
	gives(t, "what is known", column(h.Ticks, func(k api.Tick) int { return len(k.Box) }), []int{0, 1, 1, 1, 0, 1, 1})
	gives(t, "wishes", wishes(h), []int{0, 10, 10, 10, -30, 40, 10})
	p.Rules = from(0, api.MWarn)
	gives(t, "wishes with a warning", wishes(fly(t, remote(), x, api.Scene{}, p, begun(t, remote()))), []int{0, 10, 10, 10, -30, 40, 10})
	p.Aims[0].At = 2
	gives(t, "wishes with a late aim", wishes(fly(t, remote(), x, api.Scene{}, p, begun(t, remote()))), []int{0, 0, 10, 10, -20, 30, 10})
	x.Gains[0], p.Aims[0].Goal = api.Gain{SumZ: 100}, api.Goal{Z: -100}
	gives(t, "wishes for the height", wishes(fly(t, remote(), x, api.Scene{}, p, begun(t, remote()))), []int{0, 0, -10, -10, 20, -30, -10})
}

// 10.2, steps 5, 6 and 8: what the modes do
func TestModes(t *testing.T) {
	p := simple(8, 0, 0, 1, 64)
	p.Waves = []api.Wave{{Coil: "a", Corners: corners(0, 0, 3, 150)}}
	for _, x := range []struct {
		mode, at      int
		modes         []int
		totals, coils []int
	}{
		{api.MWarn, 3, []int{0, 0, 0, 1, 1, 1, 1, 1}, []int{0, 64, 64, 64, 64, 64, 64, 64, 64}, []int{0, 50, 100, 150, 150, 150, 150, 150, 150}},
		{api.MSoft, 3, []int{0, 0, 0, 2, 2, 2, 2, 2}, []int{0, 64, 64, 64, 56, 49, 42, 36, 31}, []int{0, 50, 100, 150, 50, 0, 0, 0, 0}},
		{api.MGas, 3, []int{0, 0, 0, 3, 3}, []int{0, 64, 64, 64, 0, 0}, []int{0, 50, 100, 150, 50, 0}},
		{api.MOff, 3, []int{0, 0, 0, 4, 4}, []int{0, 64, 64, 64, 0, 0}, []int{0, 50, 100, 150, 50, 0}},
		{api.MGas, 7, []int{0, 0, 0, 0, 0, 0, 0, 3}, []int{0, 64, 64, 64, 64, 64, 64, 64, 0}, []int{0, 50, 100, 150, 150, 150, 150, 150, 50}},
		{api.MSoft, 0, []int{2}, []int{0, 0}, []int{0, 0}},
		{api.MGas, 0, []int{3}, []int{0, 0}, []int{0, 0}},
		{api.MGas, 1, []int{0, 3}, []int{0, 64, 0}, []int{0, 50, 0}},
	} {
		p.Rules = from(x.at, x.mode)
		h := fly(t, tiny(), idle(tiny()), api.Scene{}, p, begun(t, tiny()))
		l := states(t, tiny(), api.Scene{}, h)
		call := guard.Word(x.mode) + " from the tick " + string(rune('0'+x.at))
		gives(t, call+": modes", modes(h), x.modes)
		gives(t, call+": totals", totals(l), x.totals)
		gives(t, call+": coils", coils(l), x.coils)
		gives(t, call+": the end", h.End, l[len(l)-1])
	}
}

// 10.2, Details: in a mode up to MWarn a shot never ends before its last tick
func TestNoEarlyEnd(t *testing.T) {
	p := simple(9, 0, 0)
	for _, p.Rules = range [][]api.Rule{nil, from(0, api.MWarn)} {
		same(t, "ticks without currents", len(fly(t, tiny(), idle(tiny()), api.Scene{}, p, begun(t, tiny())).Ticks), 9)
	}
	// a push keeps the coil from coming to rest
	p.Rules = from(0, api.MSoft)
	s := api.Scene{Pushes: []api.Push{{At: 0, Coil: 0, Change: -30}, {At: 1, Coil: 0, Change: 5}}}
	h := fly(t, tiny(), idle(tiny()), s, p, begun(t, tiny()))
	gives(t, "currents", coils(states(t, tiny(), s, h)), []int{0, -30, 5, 0})
	// a shell's current does not
	m, b := shelled()
	b.C.Shells[0] = 900
	same(t, "ticks with a shell's current", len(fly(t, m, idle(m), api.Scene{}, p, b).Ticks), 1)
}

// shelled is the tiny machine with a shell far away, which takes twice the change of the plasma and loses half of its current in a tick, and its first state.
func shelled() (api.Machine, api.State) {
	m := tiny()
	m.Shells = []api.Shell{{Z: -20, Self: 1237, Loss: 500}}
	return m, api.State{C: api.Currents{Coils: []int{0}, Shells: []int{0}, Plasma: []int{0}}, Heat: []int{0}, Tripped: []bool{false}}
}

// 10.2, steps 5 and 7: behind a tick in which nothing was safe the mode is at least MSoft, and stays there
func TestNothingSafe(t *testing.T) {
	m, b := shelled()
	p := simple(6, 0, 0, 1, 64)
	p.Safety.Shell = 10
	h := fly(t, m, idle(m), api.Scene{}, p, b)
	gives(t, "shares", shares(h), []int{8, -1, -1, 8, 8, 8})
	gives(t, "modes", modes(h), []int{0, 0, 2, 2, 2, 2})
	l := states(t, m, api.Scene{}, h)
	gives(t, "totals", totals(l), []int{0, 64, 64, 56, 49, 42, 36})
	gives(t, "shells", column(l, func(s api.State) int { return s.C.Shells[0] }), []int{0, -128, -64, -16, 6, 17, 20})
	// a mode above MSoft stays
	p.Rules = from(2, api.MGas)
	h = fly(t, m, idle(m), api.Scene{}, p, b)
	gives(t, "modes", modes(h), []int{0, 0, 3})
	p.Rules = from(1, api.MGas)
	gives(t, "modes", modes(fly(t, m, idle(m), api.Scene{}, p, b)), []int{0, 3})
	// the changes of the fall are made
	b.C.Coils[0], p.Rules = 250, nil
	h = fly(t, m, idle(m), api.Scene{}, p, b)
	gives(t, "wishes", wishes(h)[:3], []int{-250, -250, -100})
	gives(t, "orders", column(h.Ticks, func(k api.Tick) int { return k.Order.Change[0] })[:3], []int{0, -100, -100})
	gives(t, "shares", shares(h)[:3], []int{0, -1, -1})
	// a tripped coil lets nothing through
	b = begun(t, m)
	b.Tripped[0], b.Heat[0], p.Safety = true, 1000000, loose()
	h = fly(t, m, idle(m), api.Scene{}, p, b)
	gives(t, "shares of a tripped coil", shares(h)[:2], []int{-1, -1})
	gives(t, "modes of a tripped coil", modes(h)[:2], []int{0, 2})
}

// 10.2, step 8: the plasma is lost where it has no round, by the currents before the tick
func TestLostPlasma(t *testing.T) {
	b := begun(t, tiny())
	// the coil takes 5,495,000 from the excess, which is 50,000 for each ampere of the plasma
	b.C.Coils[0] = -1000
	p := simple(3, 0, 0, 1, 109)
	gives(t, "totals of 109", totals(states(t, tiny(), api.Scene{}, fly(t, tiny(), idle(tiny()), api.Scene{}, p, b))), []int{0, 0, 109, 109})
	p = simple(3, 0, 0, 1, 110)
	gives(t, "totals of 110", totals(states(t, tiny(), api.Scene{}, fly(t, tiny(), idle(tiny()), api.Scene{}, p, b))), []int{0, 110, 110, 110})
	// the current of the plan may come to its end and begin again
	p = simple(6, 0, 0, 1, 90, 2, 0, 3, 0, 4, 80)
	gives(t, "totals with a break", totals(states(t, tiny(), api.Scene{}, fly(t, tiny(), idle(tiny()), api.Scene{}, p, begun(t, tiny())))), []int{0, 90, 0, 0, 80, 80, 80})
}

// 10.2, step 8: three rounds, from the even start or from the cells as they are
func TestRounds(t *testing.T) {
	// two cells with the influence 250,000 on themselves and 125,000 on each other; the limiter points have 200,000 and 76,923
	m := api.Machine{Name: "two", Limits: []api.Point{{R: -1}, {R: 5}}, Grid: api.Grid{NR: 2, NZ: 1, Step: 2}}
	h := fly(t, m, api.Setup{}, api.Scene{}, simple(4, 0, 0, 1, 1001, 2, 500, 3, 499), begun(t, m))
	var cells [][]int
	for _, s := range states(t, m, api.Scene{}, h) {
		cells = append(cells, s.C.Plasma)
	}
	want := [][]int{{0, 0}}
	for i, total := range []int{1001, 500, 499, 499} {
		j := want[i]
		if i == 0 {
			j = []int{501, 500}
		}
		for range 3 {
			j = round(j[0], j[1], total)
		}
		want = append(want, j)
	}
	gives(t, "cells", cells, want)
	if slices.Equal(want[4], round(want[4][0], want[4][1], 499)) {
		t.Error("a fourth round would change nothing")
	}
}

// round is a round of two cells of the machine in TestRounds.
func round(a, b, total int) []int {
	limit := max(200000*a+76923*b, 34482*a+76923*b)
	x, y := max(0, 250000*a+125000*b-limit), max(0, 125000*a+250000*b-limit)
	l := []int{total * x / (x + y), total * y / (x + y)}
	for i, excess := range []int{x, y} {
		if excess > 0 && l[0]+l[1] < total {
			l[i]++
		}
	}
	return l
}

// 10.2, step 9: the pushes at a tick are added to the order's changes
func TestPushes(t *testing.T) {
	p := simple(5, 0, 0)
	s := api.Scene{Pushes: []api.Push{{At: 3, Change: 7}, {At: 1, Change: 30}, {At: 1, Change: -5}, {At: 5, Change: 1000}}}
	b := begun(t, tiny())
	b.Tick = 3
	h := fly(t, tiny(), idle(tiny()), s, p, b)
	gives(t, "currents", coils(states(t, tiny(), s, h)), []int{0, 0, 25, 0, 7, 0})
	gives(t, "wishes", wishes(h), []int{0, 0, -25, 0, -7})
	s.Pushes = []api.Push{{At: 0, Change: api.MaxAmp}, {At: 2, Change: -api.MaxAmp}}
	gives(t, "currents of great pushes", coils(states(t, tiny(), s, fly(t, tiny(), idle(tiny()), s, p, b))), []int{0, 100, 0, -100, 0, 0})
}

// 10.2: the errors in their order
func TestFlyErrors(t *testing.T) {
	good := trial{toy(), keen(), stormy(), demo(), busy()}
	good.fly(t)
	refused := func(what string, want api.Errno, do func(a *trial)) {
		t.Helper()
		a := trial{toy(), keen(), stormy(), demo(), busy()}
		do(&a)
		fails[api.Shot](t, "Fly with "+what, want)(desk.Fly(a.m, a.x, a.s, a.p, a.b))
	}
	for _, m := range brokenMachines() {
		refused("no machine", api.ErrInvalid, func(a *trial) { a.m = m })
	}
	refused("a gain too few", api.ErrInvalid, func(a *trial) { a.x.Gains = a.x.Gains[:1] })
	refused("a gain too many", api.ErrInvalid, func(a *trial) { a.x.Gains = append(a.x.Gains, api.Gain{}) })
	refused("too large a gain", api.ErrInvalid, func(a *trial) { a.x.Gains[1].SumZ = 1000001 })
	refused("too large a memory", api.ErrInvalid, func(a *trial) { a.x.Most = 1000000001 })
	refused("no memory", api.ErrInvalid, func(a *trial) { a.x.Most = -1 })
	for _, s := range scenes()[false] {
		refused("no scene", api.ErrInvalid, func(a *trial) { a.s = s })
	}
	for what, b := range wrongStates() {
		refused(what, api.ErrInvalid, func(a *trial) { a.b = b })
	}
	plans := map[api.Errno]func(a *trial){
		api.ErrInvalid: func(a *trial) { a.p.Owner = "" }, api.ErrRange: func(a *trial) { a.p.Ticks = 401 }, api.ErrName: func(a *trial) { a.p.Waves[1].Coil = "ah" },
		api.ErrDuplicate: func(a *trial) { a.p.Waves[1].Coil = "up" }, api.ErrOrder: func(a *trial) { a.p.Aims[1].At = 2 }, api.ErrLimit: func(a *trial) { a.p.Aims = make([]api.Aim, 17) },
	}
	for e, spoil := range plans {
		refused("no plan", e, spoil)
		refused("no plan, too late", e, func(a *trial) { spoil(a); a.b.Tick = lastTick })
		refused("neither plan nor state", api.ErrInvalid, func(a *trial) { spoil(a); a.b.Heat[1] = -1 })
		refused("neither plan nor scene", api.ErrInvalid, func(a *trial) { spoil(a); a.s.Pushes[0].At = -1 })
		refused("neither plan nor setup", api.ErrInvalid, func(a *trial) { spoil(a); a.x.Most = -1 })
	}
	refused("too late a state", api.ErrRange, func(a *trial) { a.b.Tick = lastTick - 11 })
	refused("too late a state, though the shot ends early", api.ErrRange, func(a *trial) {
		a.b, a.p.Rules = begun(t, toy()), from(0, api.MOff)
		a.s.Pushes = nil
		a.b.Tick = lastTick - 11
	})
	good.b.Tick = lastTick - 12
	same(t, "the last tick", good.fly(t).End.Tick, lastTick)
}
