package desk_test

import (
	"math/big"
	"math/rand"
	"testing"

	"shotdesk/api"
	"shotdesk/circuit"
	"shotdesk/control"
	"shotdesk/equil"
	"shotdesk/guard"
	"shotdesk/machine"
	"shotdesk/plan"
	"shotdesk/sense"
	"shotdesk/shape"
)

// A model flies a shot by the chapter's words, one after the other, and counts what it meets.
type model struct {
	trial
	t     *testing.T
	cases map[string]int
	s     api.State
	y     api.Memory
	g     api.Guard
	none  bool // the shield let nothing through at the tick before
}

// must stops the test at an error.
func must[T any](t *testing.T) func(T, api.Errno) T {
	t.Helper()
	return func(x T, e api.Errno) T {
		t.Helper()
		if e != api.OK {
			t.Fatalf("the model meets the error %d", e)
		}
		return x
	}
}

func (m *model) meet(what string, holds bool) bool {
	if holds {
		m.cases[what]++
	}
	return holds
}

// signals are those of step 4, in big numbers where they may be large.
func (m *model) signals(k api.Tick, t int) []api.Signal {
	shell, heat, broken, doubtful := 0, new(big.Int), 0, 0
	for _, n := range m.s.C.Shells {
		if n < 0 {
			n = -n
		}
		if n > shell {
			shell = n
		}
	}
	for i, n := range m.s.Heat {
		// rounded up, as the negative of what is rounded down
		x := new(big.Int).Mul(big.NewInt(int64(-n)), big.NewInt(1000))
		x.Div(x, big.NewInt(int64(m.m.Coils[i].MaxHeat)))
		if x.Neg(x).Cmp(heat) > 0 {
			heat = x
		}
	}
	if heat.Cmp(big.NewInt(api.MaxValue)) > 0 {
		heat = big.NewInt(api.MaxValue)
	}
	for _, x := range k.Kept {
		switch x {
		case api.No:
			broken++
		case api.Maybe:
			doubtful++
		}
	}
	total := 0
	for _, n := range m.s.C.Plasma {
		total += n
	}
	l := []api.Signal{
		{Name: "tick", Value: sp(t, t)}, {Name: "current", Value: sp(total, total)}, {Name: "blame", Value: sp(k.Blame, k.Blame)}, {Name: "shell", Value: sp(shell, shell)},
		{Name: "heat", Value: sp(int(heat.Int64()), int(heat.Int64()))}, {Name: "broken", Value: sp(broken, broken)}, {Name: "doubtful", Value: sp(doubtful, doubtful)},
	}
	if k.Known {
		for i, a := range []api.Span{k.Shape.Radius, k.Shape.Height, k.Shape.Area, k.Shape.Top, k.Shape.Bottom, k.Shape.Inner, k.Shape.Outer, k.Shape.Lift} {
			l = append(l, api.Signal{Name: []string{"radius", "height", "area", "top", "bottom", "inner", "outer", "lift"}[i], Value: a})
		}
	}
	return l
}

// look makes the steps 1 to 5.
func (m *model) look(t int) api.Tick {
	var k api.Tick
	k.Readings = must[[]api.Span](m.t)(sense.Read(m.m, m.s.C, m.trial.s, t))
	k.Blame = len(must[api.Blame](m.t)(sense.Accuse(m.m, m.s.C, k.Readings)).Lying)
	m.meet("blame", k.Blame > 0)
	total := machine.Total(m.s.C)
	if m.meet("a plasma", total > 0) {
		if x, e := equil.Find(m.m, m.s.C, total); e == api.OK {
			if s, e := shape.Make(m.m, m.s.C, total, x); e == api.OK {
				k.Known, k.Box, k.Shape = true, x, s
			}
		}
	}
	m.meet("unknown with a plasma", total > 0 && !k.Known)
	if m.meet("known", k.Known) {
		k.Kept = must[[]api.Truth](m.t)(shape.Kept(m.p.Bounds, k.Shape))
	} else {
		for range m.p.Bounds {
			k.Kept = append(k.Kept, api.Maybe)
		}
	}
	for _, x := range k.Kept {
		m.meet([]string{"No", "Yes", "Maybe"}[x], true)
	}
	m.g = must[api.Guard](m.t)(guard.Step(m.p.Rules, m.g, m.signals(k, t)))
	if m.meet("raised to MSoft", m.none && m.g.Mode < api.MSoft) {
		m.g.Mode = api.MSoft
	}
	k.Mode = m.g.Mode
	m.meet(guard.Word(k.Mode), true)
	return k
}

// command makes the steps 6 and 7.
func (m *model) command(t int, k *api.Tick) {
	if k.Mode >= api.MSoft {
		k.Wish = must[[]int](m.t)(control.Fall(m.m, m.s))
	} else {
		k.Wish = must[[]int](m.t)(plan.Changes(m.m, m.p, m.s, t))
		if goal, aimed := plan.Aim(m.m, m.p, t); m.meet("an aim", aimed && k.Known) {
			m.y = must[api.Memory](m.t)(control.Remember(m.x.Most, m.y, goal, k.Shape))
			m.meet("a memory", m.y != api.Memory{})
			for i, n := range must[[]int](m.t)(control.Wish(m.m, m.x, m.y, goal, k.Shape)) {
				most := m.m.Coils[i].MaxStep
				m.meet("a wish of the controller", n != 0)
				k.Wish[i] += n
				if m.meet("a wish that is cut", k.Wish[i] > most) {
					k.Wish[i] = most
				}
				if m.meet("a wish that is cut", k.Wish[i] < -most) {
					k.Wish[i] = -most
				}
			}
		}
	}
	var x []api.Span
	switch total := machine.Total(m.s.C); {
	case k.Known:
		x = k.Box
	case total > 0:
		x = must[[]api.Span](m.t)(control.Whole(m.m, total))
	default:
		x = must[[]api.Span](m.t)(control.Fixed(m.m, m.s.C))
	}
	k.Order = must[api.Order](m.t)(control.Let(m.m, m.s, k.Wish, x, m.p.Safety))
	m.none = k.Order.Share == -1
	m.meet("nothing is safe", m.none)
	m.meet("a share", k.Order.Share > 0 && k.Order.Share < 8)
}

// move makes the steps 8 and 9.
func (m *model) move(t int, k api.Tick) {
	total, next := machine.Total(m.s.C), 0
	switch k.Mode {
	case api.MRun, api.MWarn:
		next = plan.Value(m.p.Current, t+1)
	case api.MSoft:
		next = 7 * total / 8
	}
	cells := make([]int, len(m.s.C.Plasma))
	if next > 0 {
		start := m.s.C.Plasma
		if m.meet("a plasma begins", total == 0) {
			start = equil.Even(len(cells), next)
		}
		j, _, e := equil.Iterate(m.m, m.s.C, next, start, 3)
		if !m.meet("a plasma is lost", e != api.OK) {
			cells = j
		}
	}
	d := api.Drive{Plasma: cells}
	for i, n := range k.Order.Change {
		for _, p := range m.trial.s.Pushes {
			if m.meet("a push", p.At == t && p.Coil == i) {
				n += p.Change
			}
		}
		d.Change = append(d.Change, n)
	}
	m.s = must[api.State](m.t)(circuit.Step(m.m, m.s, d))
}

// ended reports whether nothing flows any more.
func (m *model) ended() bool {
	for _, l := range [][]int{m.s.C.Plasma, m.s.C.Coils} {
		for _, n := range l {
			if n != 0 {
				return false
			}
		}
	}
	return true
}

func quiet(s api.State) api.State {
	s.C.Plasma = make([]int, len(s.C.Plasma))
	return s
}

// fly returns the record of the shot, and its states.
func (m *model) fly() (api.Shot, []api.State) {
	h := api.Shot{Plan: m.p, Begin: quiet(m.b)}
	m.s, m.g = h.Begin, must[api.Guard](m.t)(guard.Begin(m.p.Rules))
	l := []api.State{m.s}
	for t := range m.p.Ticks {
		k := m.look(t)
		m.command(t, &k)
		m.move(t, k)
		h.Ticks, l = append(h.Ticks, k), append(l, m.s)
		if m.meet("the end of a shot", k.Mode >= api.MSoft && m.ended()) {
			break
		}
	}
	m.meet("an early end", len(h.Ticks) < m.p.Ticks)
	h.End = m.s
	return h, l
}

// 10.2, 10.3: random shots are those of the chapter's words
func TestModel(t *testing.T) {
	r := rand.New(rand.NewSource(4))
	cases := map[string]int{}
	for range 2500 {
		a := someTrial(r)
		m := model{trial: a, t: t, cases: cases}
		want, wantStates := m.fly()
		gives(t, "Fly", a.fly(t), want)
		gives(t, "States", states(t, a.m, a.s, want), wantStates)
	}
	t.Log(cases)
	enough(t, cases, 50, "blame", "a plasma", "unknown with a plasma", "known", "No", "Yes", "Maybe", "raised to MSoft", "run", "warn", "soft", "gas", "off", "an aim", "a memory",
		"a wish of the controller", "a wish that is cut", "nothing is safe", "a share", "a plasma begins", "a plasma is lost", "a push", "the end of a shot", "an early end")
}
