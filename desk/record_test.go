package desk_test

import (
	"math"
	"math/rand"
	"slices"
	"strings"
	"testing"

	"shotdesk/api"
	"shotdesk/circuit"
	"shotdesk/desk"
)

// flown is the record of the demo.
func flown(t *testing.T) api.Shot {
	t.Helper()
	return fly(t, toy(), keen(), stormy(), demo(), begun(t, toy()))
}

// made is a record of the tiny machine that nobody has flown, with a tick for each change.
func made(changes ...int) api.Shot {
	h := api.Shot{Plan: simple(10, 0, 0, 1, 64), Begin: api.State{C: api.Currents{Coils: []int{0}, Plasma: []int{0}}, Heat: []int{0}, Tripped: []bool{false}}}
	for _, n := range changes {
		h.Ticks = append(h.Ticks, api.Tick{Order: api.Order{Change: []int{n}}})
	}
	return h
}

// 10.3: the states follow from the begin, the plan, the modes and the orders alone
func TestStates(t *testing.T) {
	h := made(10, 20, 30, 40, 50)
	gives(t, "coils", coils(states(t, tiny(), api.Scene{}, h)), []int{0, 10, 30, 60, 100, 150})
	gives(t, "totals", totals(states(t, tiny(), api.Scene{}, h)), []int{0, 64, 64, 64, 64, 64})
	for _, x := range []struct {
		modes, want []int
	}{
		{[]int{0, 1, 2, 2, 0}, []int{0, 64, 64, 56, 49, 64}},
		{[]int{1, 3, 0, 4, 1}, []int{0, 64, 0, 64, 0, 64}},
		{[]int{2, 0, 2, 3, 2}, []int{0, 0, 64, 56, 0, 0}},
		{[]int{-1, 5, 0, math.MaxInt, math.MinInt}, []int{0, 64, 0, 64, 0, 64}},
	} {
		for i, mode := range x.modes {
			h.Ticks[i].Mode = mode
		}
		gives(t, "totals", totals(states(t, tiny(), api.Scene{}, h)), x.want)
	}
	s := api.Scene{Pushes: []api.Push{{At: 1, Change: 15}, {At: 1, Change: -5}, {At: 3, Change: -1}}}
	gives(t, "coils that are pushed", coils(states(t, tiny(), s, h)), []int{0, 10, 40, 70, 109, 159})
	// neither the end nor what a tick knew and wished matter
	for i := range h.Ticks {
		h.Ticks[i].Wish, h.Ticks[i].Known, h.Ticks[i].Order.Share = []int{9, 9}, true, 99
	}
	h.End, h.Number = api.State{Tick: -1}, 77
	gives(t, "coils", coils(states(t, tiny(), api.Scene{}, h)), []int{0, 10, 30, 60, 100, 150})
	// a record may be shorter than its plan, and go on where the shot would have ended
	gives(t, "States of no ticks", states(t, tiny(), api.Scene{}, made()), []api.State{made().Begin})
	same(t, "states of all ticks", len(states(t, tiny(), api.Scene{}, made(make([]int, 10)...))), 11)
	h = made(0, 0, 0)
	for i := range h.Ticks {
		h.Ticks[i].Mode = api.MGas
	}
	same(t, "states beyond an end", len(states(t, tiny(), api.Scene{}, h)), 4)
}

// 10.3, P10.2: the states of a flown record
func TestStatesOfFlown(t *testing.T) {
	h := flown(t)
	l := states(t, toy(), stormy(), h)
	same(t, "how many", len(l), 13)
	gives(t, "the first state", l[0], h.Begin)
	gives(t, "the last state", l[12], h.End)
	for i, s := range l {
		same(t, "a valid state", circuit.ValidState(toy(), s), true)
		same(t, "Tick", s.Tick, i)
	}
}

// 10.3, Details: the errors in their order
func TestStatesErrors(t *testing.T) {
	refused := func(what string, want api.Errno, do func(m *api.Machine, s *api.Scene, h *api.Shot)) {
		t.Helper()
		m, s, h := toy(), stormy(), flown(t)
		do(&m, &s, &h)
		fails[[]api.State](t, "States with "+what, want)(desk.States(m, s, h))
		fails[int](t, "Rejudge with "+what, want)(desk.Rejudge(m, s, h))
	}
	for _, broken := range brokenMachines() {
		refused("no machine", api.ErrInvalid, func(m *api.Machine, s *api.Scene, h *api.Shot) { *m = broken })
	}
	for _, wrong := range scenes()[false] {
		refused("no scene", api.ErrInvalid, func(m *api.Machine, s *api.Scene, h *api.Shot) { *s = wrong })
	}
	for what, b := range wrongStates() {
		refused(what, api.ErrInvalid, func(m *api.Machine, s *api.Scene, h *api.Shot) { h.Begin = b })
	}
	refused("a change too few", api.ErrInvalid, func(m *api.Machine, s *api.Scene, h *api.Shot) { h.Ticks[11].Order.Change = []int{0} })
	refused("a change too many", api.ErrInvalid, func(m *api.Machine, s *api.Scene, h *api.Shot) { h.Ticks[0].Order.Change = make([]int, 3) })
	refused("no changes", api.ErrInvalid, func(m *api.Machine, s *api.Scene, h *api.Shot) { h.Ticks[5].Order.Change = nil })
	refused("a tick too many", api.ErrInvalid, func(m *api.Machine, s *api.Scene, h *api.Shot) { h.Plan.Ticks = 11 })
	refused("another tick", api.ErrInvalid, func(m *api.Machine, s *api.Scene, h *api.Shot) { h.Ticks = append(h.Ticks, h.Ticks[0]) })
	refused("no plan", api.ErrRange, func(m *api.Machine, s *api.Scene, h *api.Shot) { h.Plan.Ticks = 0 })
	refused("no plan and no begin", api.ErrName, func(m *api.Machine, s *api.Scene, h *api.Shot) { h.Plan.Waves[0].Coil = "ah"; h.Begin.Tick = -1 })
	refused("no plan and a change too few", api.ErrOrder, func(m *api.Machine, s *api.Scene, h *api.Shot) {
		h.Plan.Aims[1].At = 0
		h.Ticks[3].Order.Change = nil
	})
	refused("no scene and no plan", api.ErrInvalid, func(m *api.Machine, s *api.Scene, h *api.Shot) { s.Pushes[0].Coil = 2; h.Plan.Ticks = 0 })
	refused("too late a begin", api.ErrRange, func(m *api.Machine, s *api.Scene, h *api.Shot) { h.Begin.Tick = lastTick - 11 })
	refused("too late a begin and a change too few", api.ErrInvalid, func(m *api.Machine, s *api.Scene, h *api.Shot) {
		h.Begin.Tick, h.Ticks[11].Order.Change = lastTick, nil
	})
	for _, n := range wild {
		refused("a wild change", api.ErrInvalid, func(m *api.Machine, s *api.Scene, h *api.Shot) { h.Ticks[4].Order.Change[1] = n })
	}
	h := made(0, 0)
	h.Begin.Tick = lastTick - 2
	same(t, "states up to the last tick", len(states(t, tiny(), api.Scene{}, h)), 3)
}

// 10.3, R6: a change is too large only with its pushes
func TestGreatChanges(t *testing.T) {
	push := func(n int) api.Scene { return api.Scene{Pushes: []api.Push{{At: 1, Change: n}}} }
	for _, x := range []struct {
		change, push int
		e            api.Errno
	}{
		{api.MaxValue, 0, api.OK}, {api.MaxValue + 1, 0, api.ErrInvalid}, {api.MaxValue, 1, api.ErrInvalid}, {api.MaxValue + 1, -1, api.OK}, {api.MaxValue + api.MaxAmp, -api.MaxAmp, api.OK}, {api.MaxValue + api.MaxAmp + 1, -api.MaxAmp, api.ErrInvalid},
		{-api.MaxValue, -1, api.ErrInvalid}, {-api.MaxValue - 1, 1, api.OK}, {math.MaxInt, api.MaxAmp, api.ErrInvalid}, {math.MinInt, -api.MaxAmp, api.ErrInvalid}, {math.MaxInt, -api.MaxAmp, api.ErrInvalid}, {math.MinInt, api.MaxAmp, api.ErrInvalid},
	} {
		h := made(0, x.change, 0)
		l, e := desk.States(tiny(), push(x.push), h)
		if e != x.e || (e == api.OK) != (len(l) == 4) {
			t.Errorf("States of the change %d with the push %d = %v, %d", x.change, x.push, l, e)
		}
	}
}

// different are functions that make a record another one from the tick 2 on.
func different() map[string]func(h *api.Shot) {
	l := map[string]func(h *api.Shot){
		"a reading":        func(h *api.Shot) { h.Ticks[2].Readings[1].Lo-- },
		"another reading":  func(h *api.Shot) { h.Ticks[2].Readings = append(h.Ticks[2].Readings, sp(0, 0)) },
		"no readings":      func(h *api.Shot) { h.Ticks[2].Readings = nil },
		"Blame":            func(h *api.Shot) { h.Ticks[2].Blame++ },
		"a cell of Box":    func(h *api.Shot) { h.Ticks[2].Box[3].Hi++ },
		"no Box":           func(h *api.Shot) { h.Ticks[2].Box = nil },
		"Known":            func(h *api.Shot) { h.Ticks[2].Known = false },
		"one that is Kept": func(h *api.Shot) { h.Ticks[2].Kept[1] = api.Maybe },
		"another Kept":     func(h *api.Shot) { h.Ticks[2].Kept = append(h.Ticks[2].Kept, api.No) },
		"Mode":             func(h *api.Shot) { h.Ticks[2].Mode = api.MRun - 1 },
		"a Wish":           func(h *api.Shot) { h.Ticks[2].Wish[0]++ },
		"no Wish":          func(h *api.Shot) { h.Ticks[2].Wish = nil },
		"a Change":         func(h *api.Shot) { h.Ticks[2].Order.Change[1]-- },
		"another Change":   func(h *api.Shot) { h.Ticks[2].Order.Change = append(h.Ticks[2].Order.Change, 0) },
		"Share":            func(h *api.Shot) { h.Ticks[2].Order.Share-- },
		"fewer ticks":      func(h *api.Shot) { h.Ticks = h.Ticks[:2] },
	}
	for i, name := range []string{"Radius", "Height", "Area", "Top", "Bottom", "Inner", "Outer", "Lift"} {
		span := func(h *api.Shot) *api.Span {
			s := &h.Ticks[2].Shape
			return []*api.Span{&s.Radius, &s.Height, &s.Area, &s.Top, &s.Bottom, &s.Inner, &s.Outer, &s.Lift}[i]
		}
		l["the Lo of "+name] = func(h *api.Shot) { span(h).Lo-- }
		l["the Hi of "+name] = func(h *api.Shot) { span(h).Hi++ }
	}
	return l
}

// 10.3
func TestDiffers(t *testing.T) {
	for what, spoil := range different() {
		a, b := flown(t), flown(t)
		spoil(&b)
		same(t, "Differs in "+what, desk.Differs(a, b), 2)
		same(t, "Differs in "+what, desk.Differs(b, a), 2)
		if len(b.Ticks) > 2 {
			// a later difference does not count, an earlier one does
			b.Ticks[7].Mode++
			same(t, "Differs in "+what+" and later", desk.Differs(a, b), 2)
			b.Ticks[1].Blame++
			same(t, "Differs in "+what+" and before", desk.Differs(a, b), 1)
			b.Ticks[0].Blame++
			same(t, "Differs in "+what+" and at first", desk.Differs(a, b), 0)
		}
		same(t, "Differs of itself", desk.Differs(b, b), -1)
	}
	a, b := flown(t), flown(t)
	same(t, "Differs of the same", desk.Differs(a, b), -1)
	b.Number, b.Plan, b.Begin = 5, api.Plan{}, api.State{}
	same(t, "Differs of other plans", desk.Differs(a, b), -1)
	same(t, "Differs of nothing", desk.Differs(api.Shot{}, api.Shot{}), -1)
	same(t, "Differs of nothing and something", desk.Differs(api.Shot{}, a), 0)
	same(t, "Differs of longer", desk.Differs(a, api.Shot{Ticks: a.Ticks[:11], End: a.End}), 11)
	same(t, "Differs of shorter", desk.Differs(api.Shot{Ticks: a.Ticks[:11], End: a.End}, a), 11)
}

// 10.3: the ends are compared when all ticks are equal
func TestDiffersAtTheEnd(t *testing.T) {
	for what, spoil := range map[string]func(s *api.State){
		"Tick": func(s *api.State) { s.Tick++ }, "a coil": func(s *api.State) { s.C.Coils[1]++ }, "a shell": func(s *api.State) { s.C.Shells[0]++ }, "a cell": func(s *api.State) { s.C.Plasma[5]++ },
		"a heat": func(s *api.State) { s.Heat[1]++ }, "a trip": func(s *api.State) { s.Tripped[0] = true }, "everything": func(s *api.State) { *s = api.State{} },
	} {
		a, b := flown(t), flown(t)
		spoil(&b.End)
		same(t, "Differs in the end's "+what, desk.Differs(a, b), 12)
		b.Ticks[11].Wish[0]++
		same(t, "Differs in the last tick and the end's "+what, desk.Differs(a, b), 11)
		b.Ticks = b.Ticks[:4]
		same(t, "Differs in length and the end's "+what, desk.Differs(a, b), 4)
	}
	same(t, "Differs of ends alone", desk.Differs(api.Shot{End: api.State{Tick: 1}}, api.Shot{}), 0)
}

// 10.3, Details: nil and empty lists are equal
func TestDiffersOfEmptyLists(t *testing.T) {
	a := api.Shot{Ticks: []api.Tick{{}, {}}}
	b := api.Shot{Ticks: []api.Tick{{}, {Readings: []api.Span{}, Box: []api.Span{}, Kept: []api.Truth{}, Wish: []int{}, Order: api.Order{Change: []int{}}}}, End: api.State{C: api.Currents{Coils: []int{}, Shells: []int{}, Plasma: []int{}}, Heat: []int{}, Tripped: []bool{}}}
	same(t, "Differs of empty lists", desk.Differs(a, b), -1)
	same(t, "Differs of empty lists", desk.Differs(b, a), -1)
}

// 10.3
func TestReplay(t *testing.T) {
	for what, replay := range map[string]func(api.Machine, api.Setup, api.Scene, api.Shot) (int, api.Errno){"Replay": desk.Replay, "Other": desk.Other} {
		is(t, what, -1)(replay(toy(), keen(), stormy(), flown(t)))
		// the number does not matter
		h := flown(t)
		h.Number = 9
		is(t, what+" of another number", -1)(replay(toy(), keen(), stormy(), h))
		for how, spoil := range different() {
			h := flown(t)
			spoil(&h)
			is(t, what+" with "+how, 2)(replay(toy(), keen(), stormy(), h))
		}
		h = flown(t)
		h.End.Tick++
		is(t, what+" of another end", 12)(replay(toy(), keen(), stormy(), h))
		h.Ticks = nil
		is(t, what+" of no ticks", 0)(replay(toy(), keen(), stormy(), h))
		// the first tick with an aim is the second that is known
		is(t, what+" with an idle setup", 2)(replay(toy(), idle(toy()), stormy(), flown(t)))
		// the readings of the first tick already differ
		is(t, what+" with another scene", 0)(replay(toy(), keen(), api.Scene{}, flown(t)))
		s := stormy()
		s.Pushes[0].Change++
		is(t, what+" with another push", 7)(replay(toy(), keen(), s, flown(t)))
		// a begin with a plasma counts as one without it
		h = flown(t)
		h.Begin.C.Plasma[0] = 5
		is(t, what+" of a begin with a plasma", -1)(replay(toy(), keen(), stormy(), h))
		h.Begin.Tick++
		is(t, what+" of another begin", 12)(replay(toy(), keen(), stormy(), h))
		replayErrors(t, what, replay)
	}
}

func replayErrors(t *testing.T, what string, replay func(api.Machine, api.Setup, api.Scene, api.Shot) (int, api.Errno)) {
	t.Helper()
	for _, m := range brokenMachines() {
		fails[int](t, what+" without a machine", api.ErrInvalid)(replay(m, keen(), stormy(), flown(t)))
	}
	fails[int](t, what+" without a setup", api.ErrInvalid)(replay(toy(), api.Setup{}, stormy(), flown(t)))
	for _, s := range scenes()[false] {
		fails[int](t, what+" without a scene", api.ErrInvalid)(replay(toy(), keen(), s, flown(t)))
	}
	h := flown(t)
	h.Plan.Waves[0].Coil = "ah"
	fails[int](t, what+" without a plan", api.ErrName)(replay(toy(), keen(), stormy(), h))
	h.Begin.Heat = nil
	fails[int](t, what+" without a begin", api.ErrInvalid)(replay(toy(), keen(), stormy(), h))
	h = flown(t)
	h.Begin.Tick = lastTick - 11
	fails[int](t, what+" of too late a begin", api.ErrRange)(replay(toy(), keen(), stormy(), h))
}

// 10.3
func TestRejudge(t *testing.T) {
	is(t, "Rejudge", -1)(desk.Rejudge(toy(), stormy(), flown(t)))
	is(t, "Rejudge of no ticks", -1)(desk.Rejudge(tiny(), api.Scene{}, made()))
	is(t, "Rejudge of what nobody knows", -1)(desk.Rejudge(tiny(), api.Scene{}, made(1, 2, 3)))
	for what, spoil := range map[string]func(k *api.Tick){
		"no Box":             func(k *api.Tick) { k.Box = nil },
		"too small a cell":   func(k *api.Tick) { k.Box[0].Hi = k.Box[0].Lo },
		"a cell that is off": func(k *api.Tick) { k.Box[0].Lo, k.Box[0].Hi = 0, 1 },
		"a cell too many":    func(k *api.Tick) { k.Box = append(k.Box, sp(0, 0)) },
		"a wild cell":        func(k *api.Tick) { k.Box[5].Hi = math.MaxInt },
		"a cell below 0":     func(k *api.Tick) { k.Box[5].Lo = -1 },
		"another Radius":     func(k *api.Tick) { k.Shape.Radius.Lo-- },
		"another Height":     func(k *api.Tick) { k.Shape.Height.Hi++ },
		"another Area":       func(k *api.Tick) { k.Shape.Area.Hi-- },
		"another Lift":       func(k *api.Tick) { k.Shape.Lift.Lo++ },
		"no Shape":           func(k *api.Tick) { k.Shape = api.Shape{} },
	} {
		h := flown(t)
		spoil(&h.Ticks[4])
		is(t, "Rejudge with "+what, 4)(desk.Rejudge(toy(), stormy(), h))
		h.Ticks[4].Known = false
		is(t, "Rejudge with "+what+" where it is not known", -1)(desk.Rejudge(toy(), stormy(), h))
		h.Ticks[4].Known = true
		spoil(&h.Ticks[9])
		is(t, "Rejudge with "+what+" twice", 4)(desk.Rejudge(toy(), stormy(), h))
		spoil(&h.Ticks[1])
		is(t, "Rejudge with "+what+" at once", 1)(desk.Rejudge(toy(), stormy(), h))
	}
	// a tick without a plasma is not known
	h := flown(t)
	h.Ticks[0].Known = true
	is(t, "Rejudge of no plasma", 0)(desk.Rejudge(toy(), stormy(), h))
	h.Ticks[0].Box, h.Ticks[0].Shape = make([]api.Span, 6), h.Ticks[1].Shape
	is(t, "Rejudge of no plasma", 0)(desk.Rejudge(toy(), stormy(), h))
	// what else is in a record does not matter
	h = flown(t)
	for i := range h.Ticks {
		k := &h.Ticks[i]
		k.Readings, k.Blame, k.Kept, k.Wish, k.Order.Share = nil, 99, nil, nil, 5
	}
	h.End, h.Number = api.State{}, 4
	is(t, "Rejudge of the rest", -1)(desk.Rejudge(toy(), stormy(), h))
	// a box is judged for the state before its tick
	h.Ticks[3].Order.Change[0] += 9
	is(t, "Rejudge of another order", 4)(desk.Rejudge(toy(), stormy(), h))
}

// 10.3: a larger box that is proved has another shape, or is as good as the one that was found
func TestRejudgeLargerBoxes(t *testing.T) {
	h := made(0, 0, 0)
	x := []api.Span{sp(60, 64)}
	h.Ticks[1].Known, h.Ticks[1].Box, h.Ticks[1].Shape = true, x, api.Shape{Area: sp(1, 1)}
	is(t, "Rejudge of a larger box", -1)(desk.Rejudge(tiny(), api.Scene{}, h))
	h.Ticks[1].Box = []api.Span{sp(60, 63)}
	is(t, "Rejudge of a box that is not proved", 1)(desk.Rejudge(tiny(), api.Scene{}, h))
}

// 10.4
func TestWorst(t *testing.T) {
	for _, x := range []struct {
		modes      []int
		mode, tick int
	}{
		{nil, 0, -1}, {[]int{0}, 0, 0}, {[]int{0, 0, 0}, 0, 0}, {[]int{0, 1, 1, 0}, 1, 1}, {[]int{0, 1, 0, 2, 2, 3, 3}, 3, 5}, {[]int{4, 3, 4}, 4, 0}, {[]int{0, 2, 1, 2}, 2, 1},
		{[]int{-5, -7, -5}, -5, 0}, {[]int{-7, -5, -5}, -5, 1}, {[]int{3, 99, 7, 99}, 99, 1}, {[]int{math.MinInt}, math.MinInt, 0}, {[]int{math.MinInt, math.MaxInt}, math.MaxInt, 1},
	} {
		var h api.Shot
		for _, mode := range x.modes {
			h.Ticks = append(h.Ticks, api.Tick{Mode: mode})
		}
		mode, tick := desk.Worst(h)
		if mode != x.mode || tick != x.tick {
			t.Errorf("Worst of %v = %d, %d", x.modes, mode, tick)
		}
	}
}

// 10.4
func TestText(t *testing.T) {
	k := func(mode, share int, known bool) api.Tick {
		return api.Tick{Mode: mode, Known: known, Order: api.Order{Share: share}, Shape: api.Shape{Radius: sp(4900, 5100), Height: sp(-20, 7)}}
	}
	h := api.Shot{Number: 3, Ticks: []api.Tick{k(0, 8, false), k(1, 7, true), k(2, -1, true), k(3, 0, false), k(4, 8, true)}}
	same(t, "Text", desk.Text(h), "0 run unknown 8\n1 warn known 7 4900..5100 -20..7\n2 soft known -1 4900..5100 -20..7\n3 gas unknown 0\n4 off known 8 4900..5100 -20..7\n")
	same(t, "Text of nothing", desk.Text(api.Shot{}), "")
	h.Ticks = slices.Repeat([]api.Tick{k(0, 8, false)}, 401)
	same(t, "the last line of a long Text", strings.HasSuffix(desk.Text(h), "\n399 run unknown 8\n400 run unknown 8\n"), true)
	p := simple(3, 0, 0, 1, 64)
	same(t, "Text of a shot", desk.Text(fly(t, tiny(), idle(tiny()), api.Scene{}, p, begun(t, tiny()))), "0 run unknown 8\n1 run known 8 0..0 0..0\n2 run known 8 0..0 0..0\n")
}

// P10.2: Replay of Fly's record is -1, and its states end with its End
func TestReplayOfFlown(t *testing.T) {
	r := rand.New(rand.NewSource(5))
	for range 300 {
		a := someTrial(r)
		h := a.fly(t)
		is(t, "Replay", -1)(desk.Replay(a.m, a.x, a.s, h))
		l := states(t, a.m, a.s, h)
		gives(t, "the first state", l[0], h.Begin)
		gives(t, "the last state", l[len(l)-1], h.End)
		same(t, "how many states", len(l), len(h.Ticks)+1)
	}
}
