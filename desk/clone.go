package desk

import (
	"slices"

	"shotdesk/api"
)

func cloneMachine(m api.Machine) api.Machine {
	m.Coils, m.Shells, m.Limits, m.Sensors = slices.Clone(m.Coils), slices.Clone(m.Shells), slices.Clone(m.Limits), slices.Clone(m.Sensors)
	return m
}

func cloneSetup(x api.Setup) api.Setup {
	x.Gains = slices.Clone(x.Gains)
	return x
}

func cloneState(s api.State) api.State {
	s.C = api.Currents{Coils: slices.Clone(s.C.Coils), Shells: slices.Clone(s.C.Shells), Plasma: slices.Clone(s.C.Plasma)}
	s.Heat, s.Tripped = slices.Clone(s.Heat), slices.Clone(s.Tripped)
	return s
}

// clonePlan copies a plan. It must be valid, so that its conditions have an end.
func clonePlan(p api.Plan) api.Plan {
	p.Current, p.Waves, p.Aims = slices.Clone(p.Current), slices.Clone(p.Waves), slices.Clone(p.Aims)
	p.Bounds, p.Rules = slices.Clone(p.Bounds), slices.Clone(p.Rules)
	for i := range p.Waves {
		p.Waves[i].Corners = slices.Clone(p.Waves[i].Corners)
	}
	for i := range p.Rules {
		p.Rules[i].When = cloneCond(p.Rules[i].When)
	}
	return p
}

func cloneCond(c api.Cond) api.Cond {
	c.Kids = slices.Clone(c.Kids)
	for i := range c.Kids {
		c.Kids[i] = cloneCond(c.Kids[i])
	}
	return c
}
