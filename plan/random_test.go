package plan_test

import (
	"math/rand"
	"slices"
	"strconv"
	"testing"

	"shotdesk/api"
	"shotdesk/circuit"
	"shotdesk/machine"
	"shotdesk/plan"
)

// some returns a random machine in which coils trip and cool down again.
func some(r *rand.Rand) api.Machine {
	place := func() (int, int) { return r.Intn(121) - 60, r.Intn(121) - 60 }
	m := api.Machine{Name: "some", Limits: []api.Point{{}}}
	for i := range r.Intn(4) {
		c := api.Coil{Name: "c" + strconv.Itoa(i), Turns: 1 + r.Intn(100), MaxCurrent: 1 + r.Intn(3000), MaxStep: 1 + r.Intn(500), MaxHeat: 1 + r.Intn(20000), Cool: r.Intn(200)}
		c.R, c.Z = place()
		m.Coils = append(m.Coils, c)
	}
	for range r.Intn(4) {
		s := api.Shell{Self: 1 + r.Intn(10000000), Loss: 1 + r.Intn(1000)}
		s.R, s.Z = place()
		m.Shells = append(m.Shells, s)
	}
	m.Grid = api.Grid{R: -10, Z: r.Intn(50), NR: 1 + r.Intn(3), NZ: 1 + r.Intn(3), Step: 1 + r.Intn(5)}
	return m
}

// someTicks returns so many random ticks up to the last one, in ascending order, of which the first is 0.
func someTicks(r *rand.Rand, count, last int) []int {
	l := r.Perm(last)[:count-1]
	for i := range l {
		l[i]++
	}
	slices.Sort(l)
	return append([]int{0}, l...)
}

// someWave returns random corners that are at most so large, and rise by at most a step.
func someWave(r *rand.Rand, most, step int) []api.Corner {
	var l []api.Corner
	for i, at := range someTicks(r, 1+r.Intn(6), []int{8, 30, 400}[r.Intn(3)]) {
		c := api.Corner{At: at}
		if i > 0 {
			before := l[i-1]
			room := step * (at - before.At)
			least, last := max(-most, before.Value-room), min(most, before.Value+room)
			c.Value = []int{least, last, least + r.Intn(last-least+1)}[r.Intn(3)]
		}
		l = append(l, c)
	}
	return l
}

func someRules(r *rand.Rand) []api.Rule {
	all := demo().Rules
	x := api.Rule{Name: "third", When: api.Cond{Op: api.CAnd, Kids: []api.Cond{all[0].When, all[1].When}}, For: 1 + r.Intn(1000), Doubt: r.Intn(1001), Mode: 1 + r.Intn(4), Clear: r.Intn(1001)}
	all = append(all, x)
	return all[r.Intn(4):]
}

func someBounds(r *rand.Rand) []api.Bound {
	var l []api.Bound
	for range r.Intn(5) {
		lo := r.Intn(2*api.MaxValue) - api.MaxValue
		l = append(l, api.Bound{Kind: 1 + r.Intn(8), Keep: api.Span{Lo: lo, Hi: lo + r.Intn(api.MaxValue-lo+1)}})
	}
	return l
}

// somePlan returns a random plan that is valid for a machine, with a large safety and purse.
func somePlan(r *rand.Rand, m api.Machine) api.Plan {
	p := api.Plan{Name: "p" + strconv.Itoa(r.Intn(100)), Owner: []string{"ann", "bob", "eve"}[r.Intn(3)], Ticks: 1 + r.Intn([]int{3, 3, 12, 12, 12, 12, 40, 40, 80, 400}[r.Intn(10)])}
	p.Current = someWave(r, api.MaxAmp, api.MaxAmp)
	for i := range p.Current {
		p.Current[i].Value = max(p.Current[i].Value, -p.Current[i].Value)
	}
	for _, i := range r.Perm(len(m.Coils)) {
		if c := m.Coils[i]; r.Intn(5) > 0 {
			p.Waves = append(p.Waves, api.Wave{Coil: c.Name, Corners: someWave(r, c.MaxCurrent, c.MaxStep)})
		}
	}
	for _, at := range someTicks(r, 1+r.Intn(4), 400)[r.Intn(2):] {
		p.Aims = append(p.Aims, api.Aim{At: at, Goal: api.Goal{R: r.Intn(120001) - 60000, Z: r.Intn(120001) - 60000}})
	}
	p.Bounds, p.Rules = someBounds(r), someRules(r)
	p.Safety, p.Purse = api.Safety{Shell: api.MaxAmp, Force: api.MaxValue}, api.MaxValue
	return p
}

// someState returns a random state with a plasma, which is often hot.
func someState(r *rand.Rand, m api.Machine) api.State {
	s := api.State{Tick: r.Intn(1000), C: machine.Quiet(m)}
	for i, c := range m.Coils {
		if r.Intn(2) == 0 {
			s.C.Coils[i] = r.Intn(2*c.MaxCurrent+1) - c.MaxCurrent
		}
		s.Heat = append(s.Heat, r.Intn([]int{1, c.MaxHeat + 1, 50 * c.MaxHeat}[r.Intn(3)]))
		s.Tripped = append(s.Tripped, r.Intn(6) == 0)
	}
	for i := range s.C.Shells {
		s.C.Shells[i] = r.Intn(2001) - 1000
	}
	for i := range s.C.Plasma {
		s.C.Plasma[i] = r.Intn(1000)
	}
	return s
}

// the helpers are held to what they say
func TestSome(t *testing.T) {
	r := rand.New(rand.NewSource(2))
	cases := map[string]int{}
	for range 2000 {
		m := some(r)
		p, s := somePlan(r, m), someState(r, m)
		same(t, "Check of a random plan", plan.Check(m, p), api.OK)
		same(t, "ValidState of a random state", circuit.ValidState(m, s), true)
		if len(p.Waves) > 1 && len(p.Waves) < len(m.Coils) {
			cases["a coil without a wave"]++
		}
		for _, w := range p.Waves {
			if coil := m.Coils[machine.Coil(m, w.Coil)]; plan.Rises(w.Corners) == coil.MaxStep {
				cases["the greatest rise"]++
			}
		}
	}
	enough(t, cases, 100, "a coil without a wave", "the greatest rise")
}
