package control

import (
	"shotdesk/api"
	"shotdesk/circuit"
	"shotdesk/equil"
	"shotdesk/span"
)

// Outlook returns the state after a tick with some changes, in which the cells keep their currents.
func Outlook(m api.Machine, s api.State, change []int) (api.State, api.Errno) {
	return circuit.Step(m, s, api.Drive{Change: change, Plasma: s.C.Plasma})
}

// Safe tells whether the outlook is safe.
func Safe(m api.Machine, s api.State, change []int, x []api.Span, b api.Safety) (api.Truth, api.Errno) {
	if !equil.ValidBox(m, api.MaxAmp, x) || !ValidSafety(b) {
		return api.No, api.ErrInvalid
	}
	outlook, e := Outlook(m, s, change)
	if e != api.OK {
		return api.No, e
	}
	sofar := api.Yes
	for _, ask := range conditions(m, outlook, x, b) {
		if sofar = span.And([]api.Truth{sofar, ask()}); sofar == api.No {
			break
		}
	}
	return sofar, api.OK
}

// conditions returns what is asked of an outlook; the forces come last, as they take the longest to tell.
func conditions(m api.Machine, outlook api.State, x []api.Span, b api.Safety) []func() api.Truth {
	var list []func() api.Truth
	// a coil that was tripped before is asked like any other: the tick may have released it
	for _, tripped := range outlook.Tripped {
		list = append(list, func() api.Truth { return truth(!tripped) })
	}
	for _, current := range outlook.C.Shells {
		list = append(list, func() api.Truth { return truth(within(current, -b.Shell, b.Shell)) })
	}
	f := newField(m, outlook.C, x)
	safe := api.Span{Lo: -b.Force, Hi: b.Force}
	for i := range m.Coils {
		list = append(list, func() api.Truth {
			force := f.force(i)
			return span.And([]api.Truth{span.Lies(force[0], safe), span.Lies(force[1], safe)})
		})
	}
	return list
}

func truth(holds bool) api.Truth {
	if holds {
		return api.Yes
	}
	return api.No
}

// Let returns the greatest share of a wish that is surely safe, or else the fall.
func Let(m api.Machine, s api.State, wish []int, x []api.Span, b api.Safety) (api.Order, api.Errno) {
	if !validNumbers(wish) {
		return api.Order{}, api.ErrInvalid
	}
	share := eighths
	var part []int
shares:
	for ; share >= 0; share-- {
		part, _ = Part(wish, share)
		safe, e := Safe(m, s, part, x, b)
		switch {
		case e != api.OK:
			return api.Order{}, e
		case safe == api.Yes:
			break shares
		}
	}
	if share < 0 {
		// nothing is safe, not even to do nothing
		part, _ = Fall(m, s)
	}
	return api.Order{Change: part, Share: share}, api.OK
}
