package guard_test

import (
	"math/rand"
	"slices"
	"testing"

	"shotdesk/api"
	"shotdesk/circuit"
	"shotdesk/guard"
	"shotdesk/machine"
)

// lone is a machine with a cell and a shell at one place: of what the cell's current loses in a tick, the shell's gains as much.
func lone(loss, shell, cell int) (api.Machine, api.State) {
	m := api.Machine{
		Name:   "lone",
		Shells: []api.Shell{{Self: 250000, Loss: loss}},
		Limits: []api.Point{{R: 9}},
		Grid:   api.Grid{NR: 1, NZ: 1, Step: 1},
	}
	return m, api.State{Tick: 7, C: api.Currents{Shells: []int{shell}, Plasma: []int{cell}}}
}

func safety(shell int) api.Safety { return api.Safety{Shell: shell} }

// 8.5
func TestDrop(t *testing.T) {
	for _, c := range []struct{ loss, shell, cell, most, want int }{
		{1000, 0, 160, 160, 16}, {1000, 0, 160, 159, 15}, {1000, 0, 160, 150, 15}, {1000, 0, 160, 149, 14}, {1000, 0, 160, 35, 3}, {1000, 0, 160, 30, 3}, {1000, 0, 160, 29, 2},
		{1000, 0, 160, 10, 1}, {1000, 0, 160, 9, 0}, {1000, 0, 160, 0, 0}, {1000, 0, 160, api.MaxAmp, 16}, {1000, 0, api.MaxAmp, api.MaxAmp, 16}, {1000, 0, api.MaxAmp, api.MaxAmp - 1, 15},
		// what is left is rounded down: 100 amperes become 56, 62, 68
		{1000, 0, 100, 44, 7}, {1000, 0, 100, 43, 6}, {1000, 0, 100, 38, 6}, {1000, 0, 100, 37, 5}, {1000, 0, 1, 1, 16}, {1000, 0, 1, 0, 0},
		// cells that are all 0 go by the same words
		{1000, 0, 0, 0, 16}, {1000, 500, 0, 0, 16}, {1, 500, 0, 499, 16}, {1, 500, 0, 498, 0}, {1, -500, 0, 499, 16}, {1, -500, 0, 498, 0},
		// a shell may need some of the drop, and too little of it is not safe
		{1, -100, 160, 20, 11}, {1, -100, 160, 11, 11}, {1, -100, 160, 10, 10}, {1, -100, 160, 1, 10}, {1, -100, 160, 0, 0}, {1, -100, 16, 82, 0}, {1, -100, 16, 83, 16},
		{1, 50, 160, 60, 1}, {1, 50, 160, 59, 1}, {1, 50, 160, 58, 0}, {1, 50, 160, 49, 0},
	} {
		m, s := lone(c.loss, c.shell, c.cell)
		is(t, "Drop", c.want)(guard.Drop(m, s, safety(c.most)))
		// a force is not asked for
		is(t, "Drop", c.want)(guard.Drop(m, s, api.Safety{Shell: c.most, Force: api.MaxValue}))
	}
	m, s := lone(1, 0, 160)
	m.Shells, s.C.Shells = nil, nil
	is(t, "Drop without shells", 16)(guard.Drop(m, s, safety(0)))
}

// 8.5
func TestRamp(t *testing.T) {
	for _, c := range []struct {
		loss, shell, cell, most int
		cells, shells           []int
	}{
		{1000, 0, 160, 35, []int{160, 130, 97, 66, 33, 0}, []int{0, 30, 33, 31, 33, 33}},
		{1000, 0, 160, 160, []int{160, 0}, []int{0, 160}},
		// at first nothing is safe, and the shell's current goes on its own
		{100, 50, 16, 40, []int{16, 16, 16, 12, 8, 4, 0}, []int{50, 45, 40, 40, 40, 40, 40}},
		// cells that are 0 from the first, whatever the shell has
		{100, 50, 0, 0, []int{0}, []int{50}},
	} {
		m, s := lone(c.loss, c.shell, c.cell)
		var want []api.State
		for i, cell := range c.cells {
			want = append(want, api.State{Tick: 7 + i, C: api.Currents{Shells: []int{c.shells[i]}, Plasma: []int{cell}}})
		}
		checkRamp(t, m, s, safety(c.most), 1000, want)
		count := len(want) - 1
		checkRamp(t, m, s, safety(c.most), count, want)
		if count > 0 {
			fails[[]api.State](t, "Ramp in a tick less", api.ErrNone)(guard.Ramp(m, s, safety(c.most), count-1))
			fails[[]api.State](t, "Ramp in no ticks", api.ErrNone)(guard.Ramp(m, s, safety(c.most), 0))
		}
	}
}

// checkRamp holds a ramp against its states.
func checkRamp(t *testing.T, m api.Machine, s api.State, b api.Safety, most int, want []api.State) {
	t.Helper()
	l, e := guard.Ramp(m, s, b, most)
	if e != api.OK || !slices.EqualFunc(l, want, circuit.Same) {
		t.Errorf("Ramp = %v, %d, not %v", l, e, want)
	}
}

// 8.5: a ramp that never ends
func TestRampWithoutEnd(t *testing.T) {
	m, s := lone(1, 0, 160)
	fails[[]api.State](t, "Ramp that may not begin", api.ErrNone)(guard.Ramp(m, s, safety(9), 1000))
	fails[[]api.State](t, "Ramp that may not begin", api.ErrNone)(guard.Ramp(m, s, safety(0), 0))
	m, s = lone(1, 0, 1000)
	fails[[]api.State](t, "Ramp that stops", api.ErrNone)(guard.Ramp(m, s, safety(300), 2))
}

// some returns a random machine with coils, shells and cells, and a state of it.
func some(r *rand.Rand) (api.Machine, api.State) {
	place := func() int { return r.Intn(21) - 10 }
	m := api.Machine{Name: "some", Limits: []api.Point{{R: 12}}, Grid: api.Grid{R: -1, Z: -1, NR: 1 + r.Intn(3), NZ: 1 + r.Intn(3), Step: 1 + r.Intn(2)}}
	for i := range r.Intn(3) {
		m.Coils = append(m.Coils, api.Coil{Name: someNames[i], R: place(), Z: place(), Turns: 1 + r.Intn(3), MaxCurrent: 1000, MaxStep: 1 + r.Intn(200), MaxHeat: 1000 + r.Intn(2000), Cool: r.Intn(300)})
	}
	for range r.Intn(4) {
		m.Shells = append(m.Shells, api.Shell{R: place(), Z: place(), Self: 10000 + r.Intn(200000), Loss: 1 + r.Intn(1000)>>r.Intn(4)})
	}
	s, _ := circuit.Begin(m)
	s.Tick = r.Intn(1000)
	for i := range m.Coils {
		s.C.Coils[i], s.Heat[i], s.Tripped[i] = r.Intn(2001)-1000, r.Intn(3000), r.Intn(3) == 0
	}
	for i := range m.Shells {
		s.C.Shells[i] = r.Intn(401) - 200
	}
	for i := range s.C.Plasma {
		s.C.Plasma[i] = r.Intn(2000) >> r.Intn(11)
	}
	return m, s
}

// modelDrop is the chapter's tick of a ramp, in its words.
func modelDrop(m api.Machine, s api.State, b api.Safety) (int, api.State) {
	step := func(n int) api.State {
		var cells []int
		for _, j := range s.C.Plasma {
			cells = append(cells, j*(16-n)/16)
		}
		next, _ := circuit.Step(m, s, api.Drive{Change: make([]int, len(m.Coils)), Plasma: cells})
		return next
	}
	for n := 16; n >= 1; n-- {
		next, safe := step(n), true
		for _, current := range next.C.Shells {
			safe = safe && max(current, -current) <= b.Shell
		}
		if safe {
			return n, next
		}
	}
	// 0 sixteenths less is the cells as they are
	return 0, step(0)
}

// 8.5, P8.5
func TestRampModel(t *testing.T) {
	r := rand.New(rand.NewSource(14))
	cases := map[string]int{}
	for range 1500 {
		m, s := some(r)
		b, most := safety(r.Intn(1000)>>r.Intn(8)), r.Intn(40)
		want := []api.State{s}
		for now := s; machine.Total(now.C) > 0 && len(want) <= most; want = append(want, now) {
			n, next := modelDrop(m, now, b)
			is(t, "Drop", n)(guard.Drop(m, now, b))
			now = next
			cases[map[bool]string{true: "none is safe", false: "some are safe"}[n == 0]]++
			if n == 16 {
				cases["all are safe"]++
			}
		}
		if machine.Total(want[len(want)-1].C) > 0 {
			cases["no end"]++
			fails[[]api.State](t, "Ramp", api.ErrNone)(guard.Ramp(m, s, b, most))
			continue
		}
		cases["an end"]++
		checkRamp(t, m, s, b, most, want)
		checkLower(t, m, b, want)
	}
	enough(t, cases, 200, "none is safe", "some are safe", "all are safe", "no end", "an end")
}

// checkLower holds a ramp against P8.5.
func checkLower(t *testing.T, m api.Machine, b api.Safety, l []api.State) {
	t.Helper()
	for i, s := range l[1:] {
		for k, current := range s.C.Plasma {
			if before := l[i].C.Plasma[k]; current > before {
				t.Errorf("a cell's current grows from %d to %d", before, current)
			}
		}
		n, _ := guard.Drop(m, l[i], b)
		if n == 0 {
			same(t, "the cells' currents are kept", slices.Equal(s.C.Plasma, l[i].C.Plasma), true)
			continue
		}
		for _, current := range s.C.Shells {
			if max(current, -current) > b.Shell {
				t.Errorf("a shell has %d, above %d", current, b.Shell)
			}
		}
	}
}

// 8.5 and Details: the order of errors
func TestRampErrors(t *testing.T) {
	m, s := lone(1000, 0, 160)
	b := safety(160)
	for _, x := range rampFaults() {
		m, s, b := m, s, b
		x.make(&m, &s, &b)
		fails[int](t, "Drop of "+x.what, api.ErrInvalid)(guard.Drop(m, s, b))
		for _, most := range []int{-1, 0, 5, 1000, 1001, wild[0], wild[5]} {
			fails[[]api.State](t, "Ramp of "+x.what, api.ErrInvalid)(guard.Ramp(m, s, b, most))
		}
	}
	for _, most := range append([]int{-1, 1001}, wild...) {
		fails[[]api.State](t, "Ramp", api.ErrRange)(guard.Ramp(m, s, b, most))
		empty := s
		empty.C.Plasma = []int{0}
		fails[[]api.State](t, "Ramp of nothing", api.ErrRange)(guard.Ramp(m, empty, b, most))
	}
}

// A rampFault makes a machine, a state or a safety not valid.
type rampFault struct {
	what string
	make func(m *api.Machine, s *api.State, b *api.Safety)
}

func rampFaults() []rampFault {
	return []rampFault{
		{"no machine", func(m *api.Machine, s *api.State, b *api.Safety) { *m = api.Machine{} }},
		{"a machine without a name", func(m *api.Machine, s *api.State, b *api.Safety) { m.Name = "" }},
		{"a machine with a wrong shell", func(m *api.Machine, s *api.State, b *api.Safety) { m.Shells = []api.Shell{{}} }},
		{"no state", func(m *api.Machine, s *api.State, b *api.Safety) { *s = api.State{} }},
		{"a tick below 0", func(m *api.Machine, s *api.State, b *api.Safety) { s.Tick = -1 }},
		{"a tick behind the last one", func(m *api.Machine, s *api.State, b *api.Safety) { s.Tick = lastTick + 1 }},
		{"a coil too many", func(m *api.Machine, s *api.State, b *api.Safety) { s.C.Coils = []int{0} }},
		{"a trip too many", func(m *api.Machine, s *api.State, b *api.Safety) { s.Tripped = []bool{false} }},
		{"no shell", func(m *api.Machine, s *api.State, b *api.Safety) { s.C.Shells = nil }},
		{"no cell", func(m *api.Machine, s *api.State, b *api.Safety) { s.C.Plasma = nil }},
		{"a cell below 0", func(m *api.Machine, s *api.State, b *api.Safety) { s.C.Plasma = []int{-1} }},
		{"a cell with too much", func(m *api.Machine, s *api.State, b *api.Safety) { s.C.Plasma = []int{api.MaxAmp + 1} }},
		{"a safety below 0", func(m *api.Machine, s *api.State, b *api.Safety) { b.Shell = -1 }},
		{"a safety above MaxAmp", func(m *api.Machine, s *api.State, b *api.Safety) { b.Shell = api.MaxAmp + 1 }},
		{"a force below 0", func(m *api.Machine, s *api.State, b *api.Safety) { b.Force = -1 }},
		{"a wild force", func(m *api.Machine, s *api.State, b *api.Safety) { b.Force = wild[5] }},
	}
}

// 8.5 and Details: at the last tick no step is made
func TestRampAtLastTick(t *testing.T) {
	m, s := lone(1000, 0, 160)
	s.Tick = lastTick
	fails[int](t, "Drop", api.ErrRange)(guard.Drop(m, s, safety(160)))
	fails[[]api.State](t, "Ramp", api.ErrRange)(guard.Ramp(m, s, safety(160), 1))
	fails[[]api.State](t, "Ramp in no ticks", api.ErrNone)(guard.Ramp(m, s, safety(160), 0))
	s.C.Plasma = []int{0}
	checkRamp(t, m, s, safety(0), 0, []api.State{s})
	checkRamp(t, m, s, safety(0), 1000, []api.State{s})
	fails[int](t, "Drop of nothing", api.ErrRange)(guard.Drop(m, s, safety(160)))
	// the ramp takes five ticks
	s.C.Plasma, s.Tick = []int{160}, lastTick-4
	fails[[]api.State](t, "Ramp beyond the last tick", api.ErrRange)(guard.Ramp(m, s, safety(35), 1000))
	fails[[]api.State](t, "Ramp beyond the last tick", api.ErrRange)(guard.Ramp(m, s, safety(35), 5))
	fails[[]api.State](t, "Ramp that is not let so far", api.ErrNone)(guard.Ramp(m, s, safety(35), 4))
	s.Tick = lastTick - 5
	if l, e := guard.Ramp(m, s, safety(35), 5); e != api.OK || len(l) != 6 || l[5].Tick != lastTick {
		t.Errorf("Ramp to the last tick = %v, %d", l, e)
	}
}

// 8.5: the coils go on as circuit.Step has it, also a tripped one that goes towards 0
func TestRampOfCoils(t *testing.T) {
	m, s := lone(1000, 0, 160)
	m.Coils = []api.Coil{{Name: "a", R: 30, Turns: 1, MaxCurrent: 500, MaxStep: 40, MaxHeat: 1000, Cool: 20}, {Name: "b", R: 40, Turns: 1, MaxCurrent: 500, MaxStep: 40, MaxHeat: 1000}}
	s.C.Coils, s.Heat, s.Tripped = []int{100, 300}, []int{900, 5}, []bool{true, false}
	l, e := guard.Ramp(m, s, safety(35), 1000)
	if e != api.OK || len(l) != 6 {
		t.Fatalf("Ramp = %v, %d", l, e)
	}
	for i, want := range []int{100, 60, 20, 0, 0, 0} {
		same(t, "a tripped coil's current", l[i].C.Coils[0], want)
		same(t, "another coil's current", l[i].C.Coils[1], 300)
		same(t, "another coil's heat", l[i].Heat[1], 5+90*i)
	}
}
