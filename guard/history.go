package guard

import (
	"slices"

	"shotdesk/api"
)

// Fired tells for each tick of a history whether a rule has fired after it.
func Fired(x api.Rule, h [][]api.Signal) ([]bool, api.Errno) {
	if !validRule(x) {
		return nil, api.ErrInvalid
	}
	if len(h) > maxTicks {
		return nil, api.ErrLimit
	}
	past := make([]api.Truth, 0, len(h))
	list := make([]bool, len(h))
	fired := false
	for t, s := range h {
		past = append(past, truth(x.When, valuesOf(s)))
		switch {
		case fires(x, past):
			fired = true
		case clears(x, past):
			fired = false
		}
		list[t] = fired
	}
	return list, api.OK
}

// fires reports whether a rule fires in the last tick of its condition's truths.
func fires(x api.Rule, past []api.Truth) bool {
	return endsWith(past, x.For, api.Yes) || x.Doubt > 0 && endsWith(past, x.Doubt, api.Yes, api.Maybe)
}

// clears reports whether a rule that does not fire in the last tick is cleared in it.
func clears(x api.Rule, past []api.Truth) bool {
	return x.Clear > 0 && endsWith(past, x.Clear, api.No)
}

// endsWith reports whether the last n truths are all among the given ones; what was before the first does not count.
func endsWith(past []api.Truth, n int, among ...api.Truth) bool {
	if len(past) < n {
		return false
	}
	return !slices.ContainsFunc(past[len(past)-n:], func(t api.Truth) bool { return !slices.Contains(among, t) })
}

// First returns the first tick after which the guard's mode is at least the given one.
func First(l []api.Rule, h [][]api.Signal, mode int) (int, api.Errno) {
	guards, e := Run(l, h)
	if e != api.OK {
		return 0, e
	}
	if !validMode(mode) {
		return 0, api.ErrRange
	}
	tick := slices.IndexFunc(guards[1:], func(g api.Guard) bool { return g.Mode >= mode })
	if tick < 0 {
		return 0, api.ErrNone
	}
	return tick, api.OK
}
