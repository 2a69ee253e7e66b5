package desk

import (
	"slices"
	"strconv"
	"strings"

	"shotdesk/api"
	"shotdesk/circuit"
	"shotdesk/equil"
	"shotdesk/guard"
	"shotdesk/machine"
	"shotdesk/plan"
	"shotdesk/shape"
	"shotdesk/span"
)

// States returns the states before each tick of a record and behind the last one.
func States(m api.Machine, s api.Scene, h api.Shot) ([]api.State, api.Errno) {
	if !ValidScene(m, s) {
		return nil, api.ErrInvalid
	}
	if e := plan.Check(m, h.Plan); e != api.OK {
		return nil, e
	}
	if !fits(m, h) {
		return nil, api.ErrInvalid
	}
	c := course{m, s, h.Plan}
	now := begin(h.Begin)
	list := []api.State{now}
	for t, k := range h.Ticks {
		next, e := c.after(now, t, k.Mode, k.Order.Change)
		if e != api.OK {
			return nil, e
		}
		now = next
		list = append(list, now)
	}
	return list, api.OK
}

// fits reports whether a record can be one of a machine and of its plan.
func fits(m api.Machine, h api.Shot) bool {
	unfit := func(k api.Tick) bool { return len(k.Order.Change) != len(m.Coils) }
	return circuit.ValidState(m, h.Begin) && len(h.Ticks) <= h.Plan.Ticks && !slices.ContainsFunc(h.Ticks, unfit)
}

// Differs returns the first tick in which two records differ, or -1.
func Differs(a, b api.Shot) int {
	both := min(len(a.Ticks), len(b.Ticks))
	for t := range both {
		if !sameTick(a.Ticks[t], b.Ticks[t]) {
			return t
		}
	}
	if len(a.Ticks) != len(b.Ticks) || !circuit.Same(a.End, b.End) {
		return both
	}
	return -1
}

func sameTick(a, b api.Tick) bool {
	return slices.Equal(a.Readings, b.Readings) && a.Blame == b.Blame &&
		slices.Equal(a.Box, b.Box) && a.Shape == b.Shape && a.Known == b.Known && slices.Equal(a.Kept, b.Kept) &&
		a.Mode == b.Mode && slices.Equal(a.Wish, b.Wish) &&
		slices.Equal(a.Order.Change, b.Order.Change) && a.Order.Share == b.Order.Share
}

// Replay flies a record's plan again and returns the first tick that differs, or -1.
func Replay(m api.Machine, x api.Setup, s api.Scene, h api.Shot) (int, api.Errno) {
	again, e := Fly(m, x, s, h.Plan, h.Begin)
	if e != api.OK {
		return 0, e
	}
	return Differs(h, again), api.OK
}

// Other returns the first tick that would have been another one with another setup, or -1.
func Other(m api.Machine, x api.Setup, s api.Scene, h api.Shot) (int, api.Errno) {
	return Replay(m, x, s, h)
}

// Rejudge returns the first tick whose box or shape is known but not proved, or -1.
func Rejudge(m api.Machine, s api.Scene, h api.Shot) (int, api.Errno) {
	states, e := States(m, s, h)
	if e != api.OK {
		return 0, e
	}
	for t, k := range h.Ticks {
		if k.Known && !proved(m, states[t].C, k) {
			return t, api.OK
		}
	}
	return -1, api.OK
}

// proved reports whether a tick's box is proved for some currents, and its shape is that of the box.
func proved(m api.Machine, c api.Currents, k api.Tick) bool {
	total := machine.Total(c)
	s, e := shape.Make(m, c, total, k.Box)
	return e == api.OK && s == k.Shape && equil.Judge(m, c, total, k.Box)
}

// Worst returns the greatest mode of a record, and its first tick.
func Worst(h api.Shot) (mode, tick int) {
	mode, tick = api.MRun, -1
	for t, k := range h.Ticks {
		if tick < 0 || k.Mode > mode {
			mode, tick = k.Mode, t
		}
	}
	return mode, tick
}

// Text writes a record, a line for each tick.
func Text(h api.Shot) string {
	var text strings.Builder
	for t, k := range h.Ticks {
		text.WriteString(tickLine(t, k))
	}
	return text.String()
}

func tickLine(t int, k api.Tick) string {
	number, mode, share := strconv.Itoa(t), guard.Word(k.Mode), strconv.Itoa(k.Order.Share)
	if !k.Known {
		return words(number, mode, "unknown", share) + "\n"
	}
	return words(number, mode, "known", share, span.Format(k.Shape.Radius), span.Format(k.Shape.Height)) + "\n"
}
