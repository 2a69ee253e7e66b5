package span_test

import (
	"slices"
	"testing"

	"shotdesk/api"
	"shotdesk/span"
)

const no, yes, maybe = api.No, api.Yes, api.Maybe

// 1.4
func TestLessAndLies(t *testing.T) {
	for _, c := range []struct {
		a, b       api.Span
		less, lies api.Truth
	}{
		{s(1, 3), s(3, 5), maybe, maybe},
		{s(1, 2), s(3, 5), yes, no},
		{s(5, 6), s(3, 5), no, maybe},
		{s(6, 7), s(3, 5), no, no},
		{s(3, 4), s(3, 5), maybe, yes},
		{s(4, 4), s(3, 5), maybe, yes},
		{s(5, 5), s(3, 5), no, yes},
		{s(3, 3), s(3, 3), no, yes},
		{s(2, 6), s(3, 5), maybe, maybe},
		{s(3, 3), s(3, 4), maybe, yes},
		{s(-most, -most), s(most, most), yes, no},
		{s(-most, most), s(-most, most), maybe, yes},
	} {
		if span.Less(c.a, c.b) != c.less || span.Lies(c.a, c.b) != c.lies {
			t.Errorf("%v and %v: %d, %d", c.a, c.b, span.Less(c.a, c.b), span.Lies(c.a, c.b))
		}
	}
	for _, a := range invalid() {
		for _, b := range append(invalid(), s(0, 0), s(-most, -most), s(most, most)) {
			if span.Less(a, b) != maybe || span.Less(b, a) != maybe || span.Lies(a, b) != maybe || span.Lies(b, a) != maybe {
				t.Errorf("%v and %v: not all Maybe", a, b)
			}
		}
	}
}

// 1.4, Truths: every list of up to 4 truths, with some that are none of the three
func TestAndOr(t *testing.T) {
	var check func(l []api.Truth)
	check = func(l []api.Truth) {
		and, or := yes, no
		if slices.ContainsFunc(l, func(x api.Truth) bool { return x != yes }) {
			and = maybe
		}
		if slices.Contains(l, no) {
			and = no
		}
		if slices.ContainsFunc(l, func(x api.Truth) bool { return x != no }) {
			or = maybe
		}
		if slices.Contains(l, yes) {
			or = yes
		}
		if span.And(l) != and || span.Or(l) != or {
			t.Errorf("%v: %d, %d; want %d, %d", l, span.And(l), span.Or(l), and, or)
		}
		if len(l) == 4 {
			return
		}
		for _, x := range []api.Truth{no, yes, maybe, -1, 3} {
			check(append(slices.Clone(l), x))
		}
	}
	check(nil)
	if span.And([]api.Truth{}) != yes || span.Or([]api.Truth{}) != no {
		t.Error("And, Or of an empty list")
	}
}

// 1.4
func TestLongLists(t *testing.T) {
	l := make([]api.Truth, 3000)
	l[2999] = yes
	if span.Or(l) != yes || span.And(l) != no {
		t.Error("Yes at the end")
	}
	for i := range l {
		l[i] = yes
	}
	if span.And(l) != yes {
		t.Error("And of 3,000 times Yes")
	}
	l[2999] = maybe
	if span.And(l) != maybe {
		t.Error("Maybe at the end")
	}
	l[0] = no
	if span.And(l) != no {
		t.Error("No at the beginning")
	}
}

// 1.4
func TestNot(t *testing.T) {
	if span.Not(yes) != no || span.Not(no) != yes || span.Not(maybe) != maybe {
		t.Error("Not")
	}
	for _, x := range []api.Truth{-1, 3, 9, -1 << 63, 1<<63 - 1} {
		if span.Not(x) != maybe || span.And([]api.Truth{x}) != maybe || span.Or([]api.Truth{x}) != maybe {
			t.Errorf("%d counts as Maybe", x)
		}
	}
}

// P1.5, P2
func TestTruthsForAllNumbers(t *testing.T) {
	for _, a := range smallSpans(-4, 4) {
		for _, b := range smallSpans(-4, 4) {
			var less, lies []bool
			for x := a.Lo; x <= a.Hi; x++ {
				lies = append(lies, b.Lo <= x && x <= b.Hi)
				for y := b.Lo; y <= b.Hi; y++ {
					less = append(less, x < y)
				}
			}
			if got := span.Less(a, b); got != agreed(less) {
				t.Errorf("Less of %v and %v: %d", a, b, got)
			}
			if got := span.Lies(a, b); got != agreed(lies) {
				t.Errorf("Lies of %v and %v: %d", a, b, got)
			}
		}
	}
}

// agreed is Yes or No if all say so.
func agreed(l []bool) api.Truth {
	switch {
	case !slices.Contains(l, false):
		return yes
	case !slices.Contains(l, true):
		return no
	}
	return maybe
}
