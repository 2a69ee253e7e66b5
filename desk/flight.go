package desk

import (
	"slices"

	"shotdesk/api"
	"shotdesk/circuit"
	"shotdesk/control"
	"shotdesk/equil"
	"shotdesk/guard"
	"shotdesk/machine"
	"shotdesk/plan"
	"shotdesk/sense"
	"shotdesk/shape"
)

// A flight is a shot on its way, as one setup flies it. At each tick its steps write the tick's record, one after the other.
type flight struct {
	api.Setup
	course
	memory api.Memory
	guard  api.Guard
	t      int
	s      api.State // before the tick t
	total  int       // of its cells
	share  int       // of the order before it
	k      api.Tick  // the record of it
}

// tick flies the tick t and returns its record.
func (f *flight) tick(t int) api.Tick {
	f.t, f.total, f.share = t, machine.Total(f.s.C), f.k.Order.Share
	f.k = api.Tick{}
	f.read()
	f.prove()
	f.keep()
	f.watch()
	f.wish()
	f.order()
	f.move()
	return f.k
}

// read takes the readings and counts whom they leave lying.
func (f *flight) read() {
	f.k.Readings, _ = sense.Read(f.m, f.s.C, f.scene, f.t)
	blame, _ := sense.Accuse(f.m, f.s.C, f.k.Readings)
	f.k.Blame = len(blame.Lying)
}

// prove finds the box and the shape, or else leaves both unknown.
func (f *flight) prove() {
	if f.total == 0 {
		return
	}
	x, e := equil.Find(f.m, f.s.C, f.total)
	if e != api.OK {
		return
	}
	s, e := shape.Make(f.m, f.s.C, f.total, x)
	if e != api.OK {
		return
	}
	f.k.Box, f.k.Shape, f.k.Known = x, s, true
}

// keep tells which bounds are kept.
func (f *flight) keep() {
	f.k.Kept = slices.Repeat([]api.Truth{api.Maybe}, len(f.p.Bounds))
	if f.k.Known {
		f.k.Kept, _ = shape.Kept(f.p.Bounds, f.k.Shape)
	}
}

// watch decides on the mode.
func (f *flight) watch() {
	f.guard, _ = guard.Step(f.p.Rules, f.guard, Signals(f.m, f.s, f.k, f.t))
	if f.share < 0 {
		f.guard.Mode = max(f.guard.Mode, api.MSoft)
	}
	f.k.Mode = f.guard.Mode
}

// wish tells what is wanted: what the plan asks for and, towards an aim, what the controller adds; or the end.
func (f *flight) wish() {
	if f.k.Mode >= api.MSoft {
		f.k.Wish, _ = control.Fall(f.m, f.s)
		return
	}
	f.k.Wish, _ = plan.Changes(f.m, f.p, f.s, f.t)
	goal, aimed := plan.Aim(f.m, f.p, f.t)
	if !f.k.Known || !aimed {
		return
	}
	f.memory, _ = control.Remember(f.Most, f.memory, goal, f.k.Shape)
	more, _ := control.Wish(f.m, f.Setup, f.memory, goal, f.k.Shape)
	for i, coil := range f.m.Coils {
		f.k.Wish[i] = cut(f.k.Wish[i]+more[i], coil.MaxStep)
	}
}

// order asks the shield what it lets through.
func (f *flight) order() {
	f.k.Order, _ = control.Let(f.m, f.s, f.k.Wish, f.plasmas(), f.p.Safety)
}

// plasmas returns the box of all plasmas that there may be.
func (f *flight) plasmas() []api.Span {
	if f.k.Known {
		return f.k.Box
	}
	if f.total > 0 {
		x, _ := control.Whole(f.m, f.total)
		return x
	}
	x, _ := control.Fixed(f.m, f.s.C)
	return x
}

// move goes on to the state behind the tick.
func (f *flight) move() { f.s, _ = f.after(f.s, f.t, f.k.Mode, f.k.Order.Change) }

// over reports whether the shot ends behind the tick, whatever the plan says.
func (f *flight) over() bool {
	flows := func(n int) bool { return n != 0 }
	return f.k.Mode >= api.MSoft && !slices.ContainsFunc(f.s.C.Plasma, flows) && !slices.ContainsFunc(f.s.C.Coils, flows)
}

// Fly returns the record of a shot.
func Fly(m api.Machine, x api.Setup, s api.Scene, p api.Plan, b api.State) (api.Shot, api.Errno) {
	if !control.ValidSetup(m, x) || !ValidScene(m, s) || !circuit.ValidState(m, b) {
		return api.Shot{}, api.ErrInvalid
	}
	if e := plan.Check(m, p); e != api.OK {
		return api.Shot{}, e
	}
	if b.Tick+p.Ticks > lastTick {
		return api.Shot{}, api.ErrRange
	}
	// no step can fail now, so that steps ignore the errors of the calls they make
	f := flight{Setup: x, course: course{m, s, p}, s: begin(b)}
	f.guard, _ = guard.Begin(p.Rules)
	h := api.Shot{Plan: clonePlan(p), Begin: begin(b)}
	for t := range p.Ticks {
		h.Ticks = append(h.Ticks, f.tick(t))
		if f.over() {
			break
		}
	}
	h.End = f.s
	return h, api.OK
}
