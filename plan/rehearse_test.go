package plan_test

import (
	"math"
	"math/rand"
	"slices"
	"testing"

	"shotdesk/api"
	"shotdesk/circuit"
	"shotdesk/machine"
	"shotdesk/plan"
)

// begin is the toy's state at the tick 0.
func begin(t *testing.T, m api.Machine) api.State {
	t.Helper()
	s, e := circuit.Begin(m)
	if e != api.OK {
		t.Fatalf("Begin = %d", e)
	}
	return s
}

// busy is a state of the toy in which nothing is 0 but a cell.
func busy() api.State {
	return api.State{
		Tick:    7,
		C:       api.Currents{Coils: []int{200, -300}, Shells: []int{25, -60}, Plasma: []int{0, 1, 2, 30, 40, 50}},
		Heat:    []int{1000, 2000},
		Tripped: []bool{false, false},
	}
}

// wrongStates are not valid for the toy.
func wrongStates() map[string]api.State {
	l := map[string]api.State{"nothing": {}}
	change := func(what string, do func(s *api.State)) {
		s := busy()
		do(&s)
		l[what] = s
	}
	change("a coil too few", func(s *api.State) { s.C.Coils = s.C.Coils[:1] })
	change("a shell too many", func(s *api.State) { s.C.Shells = append(s.C.Shells, 0) })
	change("a cell too few", func(s *api.State) { s.C.Plasma = s.C.Plasma[:5] })
	change("no heats", func(s *api.State) { s.Heat = nil })
	change("a trip too many", func(s *api.State) { s.Tripped = append(s.Tripped, false) })
	change("a heat below 0", func(s *api.State) { s.Heat[0] = -1 })
	change("a cell below 0", func(s *api.State) { s.C.Plasma[0] = -1 })
	change("too large a sum", func(s *api.State) { s.C.Plasma[0] = api.MaxAmp })
	change("a tick below 0", func(s *api.State) { s.Tick = -1 })
	change("too late a tick", func(s *api.State) { s.Tick = lastTick + 1 })
	for _, n := range wild {
		change("a wild tick", func(s *api.State) { s.Tick = n })
		change("a wild coil", func(s *api.State) { s.C.Coils[1] = n })
		change("a wild heat", func(s *api.State) { s.Heat[1] = n })
		change("a wild cell", func(s *api.State) { s.C.Plasma[1] = n })
	}
	return l
}

// 9.3 and Details
func TestChanges(t *testing.T) {
	m, p := toy(), demo()
	s := begin(t, m)
	for tick, want := range map[int][]int{0: {10, -25}, 3: {40, -100}, 4: {50, -75}, 9: {100, 50}, 10: {95, 50}, 19: {50, 50}} {
		is(t, "Changes", want)(plan.Changes(m, p, s, tick))
	}
	// less what the coils have, whatever is asked of them and whatever they can do
	hot := busy()
	hot.Tripped[0] = true
	is(t, "Changes of a busy state", []int{10 - 200, -25 + 300})(plan.Changes(m, p, hot, 0))
	hot.C.Coils = []int{api.MaxAmp, -api.MaxAmp}
	is(t, "Changes of too much", []int{100 - api.MaxAmp, 50 + api.MaxAmp})(plan.Changes(m, p, hot, 9))
	// a coil without a wave is brought to 0
	p.Waves = p.Waves[:1]
	is(t, "Changes without a wave", []int{-200, -25 + 300})(plan.Changes(m, p, busy(), 0))
	is(t, "Changes without a wave", []int{-200, 350})(plan.Changes(m, p, busy(), 19))
	p.Waves = nil
	is(t, "Changes without waves", []int{-200, 300})(plan.Changes(m, p, busy(), 3))
	least, few, none := bare()
	is(t, "Changes without coils", []int{})(plan.Changes(least, few, none, 0))
	// the tick of the state does not matter
	late := busy()
	late.Tick = lastTick
	is(t, "Changes of the last tick", []int{-200, 300})(plan.Changes(m, p, late, 19))
}

// 9.3
func TestChangesErrors(t *testing.T) {
	m, p := toy(), demo()
	for _, tick := range append([]int{-1, 20, 21, 400}, wild...) {
		fails[[]int](t, "Changes at a wrong tick", api.ErrRange)(plan.Changes(m, p, busy(), tick))
		for what, s := range wrongStates() {
			fails[[]int](t, "Changes of "+what, api.ErrInvalid)(plan.Changes(m, p, s, tick))
		}
	}
	for what, s := range wrongStates() {
		fails[[]int](t, "Changes of "+what, api.ErrInvalid)(plan.Changes(m, p, s, 0))
	}
	for _, f := range flaws() {
		m, p := toy(), demo()
		f.make(&m, &p)
		fails[[]int](t, "Changes with "+f.what, f.e)(plan.Changes(m, p, busy(), 0))
		fails[[]int](t, "Changes with "+f.what, f.e)(plan.Changes(m, p, api.State{}, -1))
	}
}

// rehearsal are the results of Rehearse.
type rehearsal struct {
	states []api.State
	broken api.Break
}

func rehearse(m api.Machine, p api.Plan, s api.State) (rehearsal, api.Errno) {
	l, b, e := plan.Rehearse(m, p, s)
	return rehearsal{l, b}, e
}

// load are the results of Loads.
type load struct{ heat, shell, force, swing int }

func loads(m api.Machine, p api.Plan, s api.State) (load, api.Errno) {
	heat, shell, force, swing, e := plan.Loads(m, p, s)
	return load{heat, shell, force, swing}, e
}

// modelStates is the chapter's rehearsal that goes on beyond breaks to its end.
func modelStates(t *testing.T, m api.Machine, p api.Plan, s api.State) []api.State {
	t.Helper()
	s.C.Plasma = make([]int, len(s.C.Plasma))
	list := []api.State{s}
	for tick := range p.Ticks {
		change := make([]int, len(m.Coils))
		for i, coil := range m.Coils {
			wanted := 0
			for _, w := range p.Waves {
				if w.Coil == coil.Name {
					wanted = modelValue(w.Corners, tick+1)
				}
			}
			change[i] = wanted - s.C.Coils[i]
		}
		next, e := circuit.Step(m, s, api.Drive{Change: change, Plasma: make([]int, len(s.C.Plasma))})
		if e != api.OK {
			t.Fatalf("Step = %d", e)
		}
		s = next
		list = append(list, s)
	}
	return list
}

func modelForces(t *testing.T, m api.Machine, s api.State) []int {
	t.Helper()
	var l []int
	for i := range m.Coils {
		right, up, e := machine.Force(m, s.C, i)
		if e != api.OK {
			t.Fatalf("Force = %d", e)
		}
		l = append(l, max(right, -right, up, -up))
	}
	return l
}

// modelBreaks returns all that is broken after a tick, in the chapter's order; the states are those so far.
func modelBreaks(t *testing.T, m api.Machine, p api.Plan, sofar []api.State) []api.Break {
	t.Helper()
	tick, s := len(sofar)-2, sofar[len(sofar)-1]
	var l []api.Break
	for i, tripped := range s.Tripped {
		if tripped {
			l = append(l, api.Break{Tick: tick, What: "heat", Index: i})
		}
	}
	for i, n := range s.C.Shells {
		if max(n, -n) > p.Safety.Shell {
			l = append(l, api.Break{Tick: tick, What: "shell", Index: i})
		}
	}
	for i, n := range modelForces(t, m, s) {
		if n > p.Safety.Force {
			l = append(l, api.Break{Tick: tick, What: "force", Index: i})
		}
	}
	if swing, e := circuit.Swing(m, sofar); e != api.OK || swing > p.Purse {
		l = append(l, api.Break{Tick: tick, What: "purse"})
	}
	return l
}

// modelRehearse returns the rehearsal, and how many other breaks come with the first one.
func modelRehearse(t *testing.T, m api.Machine, p api.Plan, s api.State) (rehearsal, int) {
	t.Helper()
	states := modelStates(t, m, p, s)
	for tick := range p.Ticks {
		if l := modelBreaks(t, m, p, states[:tick+2]); len(l) > 0 {
			return rehearsal{states[:tick+2], l[0]}, len(l) - 1
		}
	}
	return rehearsal{states, api.Break{Tick: -1}}, 0
}

func modelLoads(t *testing.T, m api.Machine, states []api.State) load {
	t.Helper()
	var l load
	for _, s := range states {
		for i, coil := range m.Coils {
			thousandths := (s.Heat[i]*1000 + coil.MaxHeat - 1) / coil.MaxHeat
			l.heat = max(l.heat, thousandths)
		}
		for _, n := range s.C.Shells {
			l.shell = max(l.shell, n, -n)
		}
		l.force = max(l.force, slices.Max(append(modelForces(t, m, s), 0)))
	}
	l.swing, _ = circuit.Swing(m, states)
	return l
}

// tighten makes a plan's safety and purse such that some of them break, sometimes by just as little as they can.
func tighten(r *rand.Rand, p *api.Plan, l load) {
	part := func(n int) int { return max(0, []int{n, n - 1, n + 1, r.Intn(n + 1)}[r.Intn(4)]) }
	if r.Intn(2) == 0 {
		p.Safety.Shell = min(api.MaxAmp, part(l.shell))
	}
	if r.Intn(2) == 0 {
		p.Safety.Force = part(l.force)
	}
	if r.Intn(2) == 0 {
		p.Purse = part(l.swing)
	}
}

// 9.4: Rehearse and Loads of random plans against the chapter's words
func TestRandomRehearsals(t *testing.T) {
	r := rand.New(rand.NewSource(4))
	cases := map[string]int{}
	for range 3000 {
		m := some(r)
		p, s := somePlan(r, m), someState(r, m)
		if r.Intn(3) == 0 {
			s = begin(t, m)
		}
		all := modelLoads(t, m, modelStates(t, m, p, s))
		tighten(r, &p, all)
		is(t, "Loads", all)(loads(m, p, s))
		want, others := modelRehearse(t, m, p, s)
		is(t, "Rehearse", want)(rehearse(m, p, s))
		cases[want.broken.What]++
		if others > 0 {
			cases["with others"]++
		}
		if want.broken.Index > 0 {
			cases["not the first"]++
		}
		if want.broken.Tick > 0 {
			cases["not at once"]++
		}
	}
	enough(t, cases, 100, "", "heat", "shell", "force", "purse", "with others", "not the first", "not at once")
}

// heater is a machine with a coil that heats by a thousandth of its current's square and does not cool, and a plan for it.
func heater() (api.Machine, api.Plan, api.State) {
	m, p, s := bare()
	m.Coils = []api.Coil{{Name: "c", R: 20, Turns: 1, MaxCurrent: 1000, MaxStep: 100, MaxHeat: 140}}
	p.Ticks, p.Waves = 6, []api.Wave{{Coil: "c", Corners: corners(0, 0, 4, 400)}}
	p.Safety, p.Purse = api.Safety{Shell: api.MaxAmp, Force: api.MaxValue}, api.MaxValue
	s.C.Coils, s.Heat, s.Tripped = []int{0}, []int{0}, []bool{false}
	return m, p, s
}

// 9.4: by hand
func TestRehearse(t *testing.T) {
	m, p, s := heater()
	at := func(tick, current, heat int, tripped bool) api.State {
		return api.State{Tick: tick, C: api.Currents{Coils: []int{current}, Plasma: []int{0}}, Heat: []int{heat}, Tripped: []bool{tripped}}
	}
	up := []api.State{at(0, 0, 0, false), at(1, 100, 10, false), at(2, 200, 50, false), at(3, 300, 140, false)}
	// 140 is not above 140; the next tick's 300 is
	is(t, "Rehearse of too hot a plan", rehearsal{append(slices.Clone(up), at(4, 400, 300, true)), api.Break{Tick: 3, What: "heat"}})(rehearse(m, p, s))
	// a tripped coil goes back by 200 until the end, and heats by 90 and by 40
	const cell = 1000000 / (4 + 20*20)
	is(t, "Loads of too hot a plan", load{heat: (430*1000 + 139) / 140, swing: cell * (400 + 200)})(loads(m, p, s))
	p.Ticks = 3
	is(t, "Rehearse of a shorter plan", rehearsal{up, api.Break{Tick: -1}})(rehearse(m, p, s))
	is(t, "Loads of a shorter plan", load{heat: 1000, swing: cell * 300})(loads(m, p, s))
	p.Purse = cell * 200
	is(t, "Rehearse with a purse", rehearsal{up, api.Break{Tick: 2, What: "purse"}})(rehearse(m, p, s))
	p.Purse--
	is(t, "Rehearse with a smaller purse", rehearsal{up[:3], api.Break{Tick: 1, What: "purse"}})(rehearse(m, p, s))
	p.Purse = 0
	is(t, "Rehearse without a purse", rehearsal{up[:2], api.Break{Tick: 0, What: "purse"}})(rehearse(m, p, s))
	p.Waves = nil
	is(t, "Rehearse without a purse and waves", rehearsal{[]api.State{at(0, 0, 0, false), at(1, 0, 0, false), at(2, 0, 0, false), at(3, 0, 0, false)}, api.Break{Tick: -1}})(rehearse(m, p, s))
}

// 9.4: without coils or shells there are no loads
func TestNothingToLoad(t *testing.T) {
	m, p, s := bare()
	end := api.State{Tick: 1, C: api.Currents{Plasma: []int{0}}}
	first := end
	first.Tick = 0
	is(t, "Rehearse of nothing", rehearsal{[]api.State{first, end}, api.Break{Tick: -1}})(rehearse(m, p, s))
	is(t, "Loads of nothing", load{})(loads(m, p, s))
	m.Shells, s.C.Shells = []api.Shell{{R: 5, Self: 1000, Loss: 100}}, []int{-20}
	is(t, "Loads of a shell", load{shell: 20})(loads(m, p, s))
}

// 9.4: a break is in the order heat, shell, force, purse
func TestBreakOrder(t *testing.T) {
	m, p := toy(), demo()
	m.Coils[1].MaxHeat = 5
	p.Safety, p.Purse, p.Ticks = api.Safety{}, 0, 1
	s := busy()
	s.Heat = []int{0, 0}
	order := []struct {
		want  api.Break
		relax func()
	}{
		{api.Break{What: "heat", Index: 1}, func() { m.Coils[1].MaxHeat = 5000 }},
		{api.Break{What: "shell"}, func() { p.Safety.Shell = 30 }},
		{api.Break{What: "shell", Index: 1}, func() { p.Safety.Shell = 60 }},
		{api.Break{What: "force"}, func() { p.Safety.Force = 1000000 }},
		{api.Break{What: "purse"}, func() { p.Purse = api.MaxValue }},
		{api.Break{Tick: -1}, func() {}},
	}
	for _, c := range order {
		states, broken, e := plan.Rehearse(m, p, s)
		if e != api.OK || broken != c.want || len(states) != 2 {
			t.Errorf("Rehearse = %v, %v, %d, not %v", states, broken, e, c.want)
		}
		c.relax()
	}
}

// Details: a coil that is tripped at the beginning counts if it still is after the tick 0, and what breaks before the first tick does not
func TestFirstState(t *testing.T) {
	m, p, s := heater()
	s.Heat[0], s.Tripped[0] = 140, true
	states, broken, e := plan.Rehearse(m, p, s)
	if e != api.OK || len(states) != 2 || broken != (api.Break{What: "heat"}) || states[1].C.Coils[0] != 0 {
		t.Errorf("Rehearse of a tripped coil = %v, %v, %d", states, broken, e)
	}
	// the tick 0 releases the coil, so the wave is too late for a step of it
	s.Heat[0] = 70
	states, broken, e = plan.Rehearse(m, p, s)
	if e != api.OK || broken.What == "heat" && broken.Tick == 0 || states[1].Tripped[0] || states[1].C.Coils[0] != 0 || states[2].C.Coils[0] != 100 {
		t.Errorf("Rehearse of a coil that is released = %v, %v, %d", states, broken, e)
	}
	// a heat that is too large trips in the first tick, and loads from the first state on
	s.Heat[0], s.Tripped[0] = 141, false
	states, broken, e = plan.Rehearse(m, p, s)
	if e != api.OK || len(states) != 2 || broken != (api.Break{What: "heat"}) || states[0].Tripped[0] {
		t.Errorf("Rehearse of a hot coil = %v, %v, %d", states, broken, e)
	}
	m.Coils[0].Cool = 50
	p.Ticks = 1
	is(t, "Loads of a hot coil", load{heat: 1008, swing: 100 * machine.Influence(api.Point{}, api.Point{R: 20})})(loads(m, p, s))
	states, broken, e = plan.Rehearse(m, p, s)
	if e != api.OK || len(states) != 2 || broken != (api.Break{Tick: -1}) {
		t.Errorf("Rehearse of a coil that cools in time = %v, %v, %d", states, broken, e)
	}
	m.Shells, s.C.Shells, p.Safety.Shell = []api.Shell{{R: 5, Self: 1000000, Loss: 1000}}, []int{-20}, 3
	p.Waves = nil
	_, broken, e = plan.Rehearse(m, p, s)
	if e != api.OK || broken != (api.Break{Tick: -1}) {
		t.Errorf("Rehearse of a shell that is quiet in time = %v, %d", broken, e)
	}
	is(t, "Loads of a shell that is quiet in time", load{heat: 1008, shell: 20})(loads(m, p, s))
}

// Loads: large heats are exact, and rounded up
func TestHeatLoads(t *testing.T) {
	for _, c := range []struct{ heat, most, want int }{
		{0, 7, 0}, {1, 1000, 1}, {1, 1001, 1}, {1, 1000000, 1}, {7, 7, 1000}, {8, 7, 1143}, {1001, 1000, 1001}, {10001, 10000, 1001},
		{api.MaxValue, 1, api.MaxValue * 1000}, {api.MaxValue, 1e12, 1e6}, {api.MaxValue - 1, 1e12, 1e6}, {1e12 + 1, 1e12, 1001}, {1, 1e12, 1},
	} {
		m, p, s := heater()
		m.Coils[0].MaxHeat, s.Heat[0], p.Waves = c.most, c.heat, nil
		is(t, "Loads", load{heat: c.want})(loads(m, p, s))
	}
}

// 9.4: a coil that trips is brought to 0, and Loads goes on
func TestLoadsBeyondBreaks(t *testing.T) {
	m, p, s := heater()
	m.Coils[0].MaxHeat, m.Coils[0].Cool = 45, 4
	m.Coils[0].MaxStep, p.Waves[0].Corners = 150, corners(0, 0, 4, 400)
	p.Ticks = 10
	// 6, 42, 128 trips; down by 150: 146 with 150, 142 with 0, 138 ..
	is(t, "Loads of a coil that trips", load{heat: (146*1000 + 44) / 45, swing: 600 * machine.Influence(api.Point{}, api.Point{R: 20})})(loads(m, p, s))
	p.Safety, p.Purse = api.Safety{}, 0
	is(t, "Loads whatever the limits are", load{heat: (146*1000 + 44) / 45, swing: 600 * machine.Influence(api.Point{}, api.Point{R: 20})})(loads(m, p, s))
}

// 9.4: errors in their order, and ErrRange also where a break comes before the last tick
func TestRehearseErrors(t *testing.T) {
	m, p := toy(), demo()
	both := func(what string, m api.Machine, p api.Plan, s api.State, e api.Errno) {
		t.Helper()
		fails[rehearsal](t, "Rehearse of "+what, e)(rehearse(m, p, s))
		fails[load](t, "Loads of "+what, e)(loads(m, p, s))
	}
	for what, s := range wrongStates() {
		both(what, m, p, s, api.ErrInvalid)
	}
	for _, f := range flaws() {
		m, p := toy(), demo()
		f.make(&m, &p)
		both(f.what, m, p, busy(), f.e)
		both(f.what+" and no state", m, p, api.State{}, f.e)
		late := busy()
		late.Tick = lastTick
		both(f.what+" too late", m, p, late, f.e)
	}
	s := busy()
	s.Tick = lastTick - 20
	states, broken, e := plan.Rehearse(m, p, s)
	if e != api.OK || len(states) != 21 || broken.Tick != -1 || states[20].Tick != lastTick {
		t.Errorf("Rehearse up to the last tick = %d states, %v, %d", len(states), broken, e)
	}
	if _, e := loads(m, p, s); e != api.OK {
		t.Errorf("Loads up to the last tick: %d", e)
	}
	for _, tick := range []int{lastTick - 19, lastTick} {
		s.Tick = tick
		both("a state too late", m, p, s, api.ErrRange)
		s.Tripped = []bool{true, true}
		both("a state too late that is tripped", m, p, s, api.ErrRange)
		s.Heat[0] = -1
		both("a wrong state too late", m, p, s, api.ErrInvalid)
		s = busy()
	}
}

// P9.3: from the beginning, each coil has its wave's value and is asked for what it can, as long as none is tripped
func TestWavesAreFollowed(t *testing.T) {
	r := rand.New(rand.NewSource(5))
	followed := 0
	for range 1500 {
		m := some(r)
		p := somePlan(r, m)
		states, _, e := plan.Rehearse(m, p, begin(t, m))
		if e != api.OK {
			t.Fatalf("Rehearse = %d", e)
		}
		for tick, s := range states {
			for i, c := range m.Coils {
				want := 0
				if k := slices.IndexFunc(p.Waves, func(w api.Wave) bool { return w.Coil == c.Name }); k >= 0 {
					want = plan.Value(p.Waves[k].Corners, tick)
				}
				same(t, "a coil's current", s.C.Coils[i], want)
				same(t, "whether it is beyond MaxCurrent", max(want, -want) > c.MaxCurrent, false)
				if want != 0 {
					followed++
				}
			}
			if tick == p.Ticks || slices.Contains(s.Tripped, true) {
				continue
			}
			changes, _ := plan.Changes(m, p, s, tick)
			is(t, "what is applied", changes)(circuit.Applied(m, s, changes))
		}
	}
	if followed < 5000 {
		t.Errorf("too few cases: %d", followed)
	}
}

// 9.4, R4: the plasma of the given state counts for nothing
func TestWithoutPlasma(t *testing.T) {
	m, p, s := toy(), demo(), busy()
	dry := busy()
	dry.C.Plasma = make([]int, 6)
	want, e := rehearse(m, p, dry)
	same(t, "Rehearse", e, api.OK)
	is(t, "Rehearse with a plasma", want)(rehearse(m, p, s))
	all, e := loads(m, p, dry)
	same(t, "Loads", e, api.OK)
	is(t, "Loads with a plasma", all)(loads(m, p, s))
	same(t, "the first state's plasma", machine.Total(want.states[0].C), 0)
	same(t, "the first state's tick", want.states[0].Tick, 7)
	same(t, "the given state's plasma", machine.Total(s.C), 123)
	same(t, "no number is too large", all.swing < math.MaxInt/2, true)
}
