package desk_test

import (
	"math/rand"
	"slices"
	"strconv"
	"testing"

	"shotdesk/api"
	"shotdesk/circuit"
	"shotdesk/control"
	"shotdesk/desk"
	"shotdesk/machine"
	"shotdesk/plan"
)

// oneOf returns one of some values.
func oneOf[T any](r *rand.Rand, values ...T) T { return values[r.Intn(len(values))] }

// around returns a random number from -most to most.
func around(r *rand.Rand, most int) int { return r.Intn(2*most+1) - most }

// some returns a random machine whose first coil, if there is one, has a strong flux inside of the limiter.
func some(r *rand.Rand) api.Machine {
	m := api.Machine{Name: "some", Limits: []api.Point{{R: 20, Z: around(r, 3)}}}
	for i := range oneOf(r, 0, 1, 2, 2, 3, 3) {
		c := api.Coil{Name: "c" + strconv.Itoa(i), R: around(r, 20), Z: around(r, 20), Turns: 1 + r.Intn(20), MaxCurrent: 1 + r.Intn(1000), MaxStep: 1 + r.Intn(100), MaxHeat: oneOf(r, 1000000, 10000, 1+r.Intn(500)), Cool: r.Intn(200)}
		if i == 0 {
			c.R, c.Z, c.Turns = around(r, 2), around(r, 2), 50+r.Intn(51)
		}
		m.Coils = append(m.Coils, c)
	}
	for range r.Intn(4) {
		m.Shells = append(m.Shells, api.Shell{R: around(r, 20), Z: around(r, 10), Self: 100000 + r.Intn(1000000), Loss: 1 + r.Intn(1000)})
	}
	for i := range r.Intn(3) {
		m.Limits = append(m.Limits, api.Point{R: 18 + i, Z: around(r, 9) + 20*i})
	}
	m.Grid = api.Grid{R: 8 + r.Intn(3), Z: around(r, 2), NR: 1 + r.Intn(3), NZ: 1 + r.Intn(3), Step: 1 + r.Intn(2)}
	for i := range r.Intn(4) {
		m.Sensors = append(m.Sensors, api.Sensor{Name: "s" + strconv.Itoa(i), Kind: 1 + r.Intn(3), R: around(r, 20), Z: around(r, 10), Error: r.Intn(100000)})
	}
	return m
}

func someSetup(r *rand.Rand, m api.Machine) api.Setup {
	x := idle(m)
	x.Most = oneOf(r, 0, 10, 1000, 100000)
	for i := range x.Gains {
		x.Gains[i] = api.Gain{R: around(r, 100), Z: around(r, 100), SumR: around(r, 20), SumZ: around(r, 20)}
	}
	return x
}

func someScene(r *rand.Rand, m api.Machine) api.Scene {
	s := api.Scene{Seed: r.Uint32()}
	for range r.Intn(4) {
		if len(m.Sensors) > 0 {
			s.Faults = append(s.Faults, oneOf(r,
				api.Fault{At: r.Intn(15), Sensor: r.Intn(len(m.Sensors)), Kind: api.FOffset, N: around(r, 1000000)},
				api.Fault{At: r.Intn(15), Sensor: r.Intn(len(m.Sensors)), Kind: api.FGain, N: around(r, 2000)},
				api.Fault{At: r.Intn(15), Sensor: r.Intn(len(m.Sensors)), Kind: api.FCut}))
		}
		if len(m.Coils) > 0 {
			s.Pushes = append(s.Pushes, api.Push{At: r.Intn(15), Coil: r.Intn(len(m.Coils)), Change: around(r, oneOf(r, 50, api.MaxAmp))})
		}
	}
	return s
}

// someWave returns random corners that are at most so large, and rise by at most a step.
func someWave(r *rand.Rand, most, step int) []api.Corner {
	l := []api.Corner{{}}
	for range r.Intn(5) {
		before := l[len(l)-1]
		at := before.At + 1 + r.Intn(6)
		room := step * (at - before.At)
		value := before.Value + around(r, room)
		l = append(l, api.Corner{At: at, Value: max(-most, min(value, most))})
	}
	return l
}

// someRule returns a random rule about a random signal.
func someRule(r *rand.Rand, name string) api.Rule {
	when := oneOf(r,
		api.Cond{Op: api.CMore, Name: "tick", N: r.Intn(15)}, api.Cond{Op: api.CIs, Name: "current", N: 20, M: 20 + r.Intn(200)}, api.Cond{Op: api.CMore, Name: "blame", N: r.Intn(2)},
		api.Cond{Op: api.CMore, Name: "shell", N: r.Intn(40)}, api.Cond{Op: api.CMore, Name: "heat", N: r.Intn(900)}, api.Cond{Op: api.CMore, Name: "broken", N: r.Intn(3)},
		api.Cond{Op: api.CLess, Name: "doubtful", N: r.Intn(3)}, api.Cond{Op: api.CMore, Name: "radius", N: 8000 + r.Intn(5000)}, api.Cond{Op: api.CLess, Name: "height", N: around(r, 2000)},
		api.Cond{Op: api.CMore, Name: "area", N: r.Intn(9)}, api.Cond{Op: api.CMore, Name: "lift", N: around(r, 100)}, api.Cond{Op: api.CLess, Name: "inner", N: 8 + r.Intn(3)},
	)
	if r.Intn(4) == 0 {
		when = api.Cond{Op: api.CNot, Kids: []api.Cond{when}}
	}
	return api.Rule{Name: name, When: when, For: 1 + r.Intn(4), Doubt: r.Intn(8), Mode: oneOf(r, 1, 1, 1, 2, 2, 3, 4), Clear: r.Intn(4)}
}

// somePlan returns a random plan for a machine.
func somePlan(r *rand.Rand, m api.Machine) api.Plan {
	p := simple(1+r.Intn(20), 0, 0)
	p.Name = "p" + strconv.Itoa(r.Intn(100))
	p.Owner = oneOf(r, "ann", "bob", "eve")
	for range 1 + r.Intn(4) {
		p.Current = append(p.Current, api.Corner{At: p.Current[len(p.Current)-1].At + 1 + r.Intn(6), Value: oneOf(r, 0, 3, 50+r.Intn(100), r.Intn(500), r.Intn(api.MaxAmp))})
	}
	for _, i := range r.Perm(len(m.Coils)) {
		if c := m.Coils[i]; r.Intn(5) > 0 {
			p.Waves = append(p.Waves, api.Wave{Coil: c.Name, Corners: someWave(r, c.MaxCurrent, c.MaxStep)})
		}
	}
	for at := r.Intn(4); len(p.Aims) < 5 && r.Intn(4) > 0; at += 1 + r.Intn(6) {
		p.Aims = append(p.Aims, api.Aim{At: at, Goal: api.Goal{R: 9000 + r.Intn(4000), Z: around(r, 2000)}})
	}
	for range r.Intn(4) {
		lo := oneOf(r, 9000+r.Intn(3000), around(r, 1000), around(r, 10))
		p.Bounds = append(p.Bounds, api.Bound{Kind: 1 + r.Intn(8), Keep: sp(lo, lo+r.Intn(500))})
	}
	for i := range r.Intn(3) {
		p.Rules = append(p.Rules, someRule(r, "r"+strconv.Itoa(i)))
	}
	if r.Intn(3) == 0 {
		p.Safety.Shell = r.Intn(100)
	}
	if r.Intn(3) == 0 {
		p.Safety.Force = r.Intn(50)
	}
	return p
}

// someState returns a random state with a plasma.
func someState(r *rand.Rand, m api.Machine) api.State {
	s := api.State{Tick: r.Intn(1000), C: machine.Quiet(m)}
	quiet := r.Intn(2) == 0
	for i, c := range m.Coils {
		s.Heat, s.Tripped = append(s.Heat, r.Intn(c.MaxHeat+1)), append(s.Tripped, r.Intn(10) == 0)
		if !quiet {
			s.C.Coils[i] = around(r, c.MaxCurrent)
		}
	}
	for i := range s.C.Shells {
		if !quiet {
			s.C.Shells[i] = around(r, 100)
		}
	}
	for i := range s.C.Plasma {
		s.C.Plasma[i] = r.Intn(1000)
	}
	return s
}

// A trial is all that a shot takes.
type trial struct {
	m api.Machine
	x api.Setup
	s api.Scene
	p api.Plan
	b api.State
}

func someTrial(r *rand.Rand) trial {
	m := some(r)
	return trial{m, someSetup(r, m), someScene(r, m), somePlan(r, m), someState(r, m)}
}

func (a trial) fly(t *testing.T) api.Shot {
	t.Helper()
	return fly(t, a.m, a.x, a.s, a.p, a.b)
}

// the helpers are held to what they say
func TestSome(t *testing.T) {
	r := rand.New(rand.NewSource(3))
	for range 2000 {
		a := someTrial(r)
		same(t, "ValidSetup of a random setup", control.ValidSetup(a.m, a.x), true)
		same(t, "ValidScene of a random scene", desk.ValidScene(a.m, a.s), true)
		same(t, "Check of a random plan", plan.Check(a.m, a.p), api.OK)
		same(t, "ValidState of a random state", circuit.ValidState(a.m, a.b), true)
		same(t, "aims in order", slices.IsSortedFunc(a.p.Aims, func(a, b api.Aim) int { return a.At - b.At }), true)
	}
}
