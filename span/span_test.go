package span_test

import (
	"math"
	"testing"

	"shotdesk/api"
	"shotdesk/span"
)

const most = api.MaxValue

func s(lo, hi int) api.Span { return api.Span{Lo: lo, Hi: hi} }

// invalid are spans that are not valid, each for a reason of its own.
func invalid() []api.Span {
	return []api.Span{
		s(1, 0), s(0, -1), s(most, -most),
		s(0, most+1), s(-most-1, 0), s(most+1, most+1), s(-most-1, -most-1), s(-most-1, most+1),
		s(math.MinInt, math.MaxInt), s(math.MaxInt, math.MinInt), s(math.MinInt, math.MinInt), s(math.MaxInt, math.MaxInt),
	}
}

// want returns a check of a call's two results.
func want(t *testing.T, call string, a api.Span, e api.Errno) func(api.Span, api.Errno) {
	return func(b api.Span, f api.Errno) {
		t.Helper()
		if a != b || e != f {
			t.Errorf("%s = %v, %d; want %v, %d", call, b, f, a, e)
		}
	}
}

func ok(t *testing.T, call string, a api.Span) func(api.Span, api.Errno) {
	return want(t, call, a, api.OK)
}

func fails(t *testing.T, call string, e api.Errno) func(api.Span, api.Errno) {
	return want(t, call, api.Span{}, e)
}

// DOC.md, Errors: the numbers of the errors.
func TestErrorNumbers(t *testing.T) {
	for i, e := range []api.Errno{
		api.OK, api.ErrInvalid, api.ErrSyntax, api.ErrLong, api.ErrLimit, api.ErrName, api.ErrDuplicate, api.ErrRange,
		api.ErrNone, api.ErrBig, api.ErrZero, api.ErrOrder, api.ErrState, api.ErrKey, api.ErrChain, api.ErrCommand,
	} {
		if int(e) != i {
			t.Errorf("error %d has the number %d", i, e)
		}
	}
}

// 1.1
func TestValid(t *testing.T) {
	for _, a := range []api.Span{s(0, 0), s(-5, 12), s(-most, most), s(most, most), s(-most, -most)} {
		if !span.Valid(a) {
			t.Errorf("%v is valid", a)
		}
	}
	for _, a := range invalid() {
		if span.Valid(a) {
			t.Errorf("%v is not valid", a)
		}
	}
}

// 1.1
func TestPointAndMake(t *testing.T) {
	for _, n := range []int{0, 7, -7, most, -most} {
		ok(t, "Point", s(n, n))(span.Point(n))
	}
	ok(t, "Make", s(-2, 5))(span.Make(-2, 5))
	ok(t, "Make", s(-2, 5))(span.Make(5, -2))
	ok(t, "Make", s(4, 4))(span.Make(4, 4))
	ok(t, "Make", s(-most, most))(span.Make(most, -most))
	for _, n := range []int{most + 1, -most - 1, math.MaxInt, math.MinInt} {
		fails(t, "Point", api.ErrBig)(span.Point(n))
		fails(t, "Make", api.ErrBig)(span.Make(n, 0))
		fails(t, "Make", api.ErrBig)(span.Make(0, n))
		fails(t, "Make", api.ErrBig)(span.Make(n, n))
	}
	fails(t, "Make", api.ErrBig)(span.Make(math.MinInt, math.MaxInt))
}

// 1.1
func TestContains(t *testing.T) {
	for n := -4; n <= 4; n++ {
		if span.Contains(s(-2, 3), n) != (n >= -2 && n <= 3) {
			t.Errorf("Contains of -2..3 and %d", n)
		}
	}
	if !span.Contains(s(-most, most), most) || !span.Contains(s(-most, most), -most) {
		t.Error("Contains: the ends of the greatest span")
	}
	for _, n := range []int{most + 1, -most - 1, math.MaxInt, math.MinInt} {
		if span.Contains(s(-most, most), n) {
			t.Errorf("no span holds %d", n)
		}
	}
	for _, a := range invalid() {
		for _, n := range []int{a.Lo, a.Hi, 0, 1} {
			if span.Contains(a, n) {
				t.Errorf("Contains of %v and %d", a, n)
			}
		}
	}
}

// 1.1
func TestInside(t *testing.T) {
	for _, c := range []struct {
		a, b api.Span
		want bool
	}{
		{s(1, 3), s(1, 3), true}, {s(1, 3), s(0, 3), true}, {s(1, 3), s(1, 4), true}, {s(2, 2), s(1, 3), true},
		{s(0, 3), s(1, 4), false}, {s(1, 5), s(1, 4), false}, {s(0, 5), s(1, 4), false}, {s(5, 6), s(1, 4), false},
		{s(-3, -1), s(-4, 0), true}, {s(-most, most), s(-most, most), true}, {s(-most, most), s(0, most), false},
	} {
		if span.Inside(c.a, c.b) != c.want {
			t.Errorf("Inside of %v and %v", c.a, c.b)
		}
	}
	for _, a := range invalid() {
		for _, b := range append(invalid(), s(-most, most), s(0, 0)) {
			if span.Inside(a, b) || span.Inside(b, a) {
				t.Errorf("Inside of %v and %v", a, b)
			}
		}
	}
}

// 1.1
func TestNumbersOfSpans(t *testing.T) {
	for _, c := range []struct {
		a                               api.Span
		width, middle, greatest, proved int
	}{
		{s(-3, 8), 11, 2, 8, 0},
		{s(4, 9), 5, 6, 9, 4},
		{s(-9, -2), 7, -6, 9, -2},
		{s(-8, 3), 11, -3, 8, 0},
		{s(-5, 5), 10, 0, 5, 0},
		{s(-1, 0), 1, -1, 1, 0},
		{s(0, 1), 1, 0, 1, 0},
		{s(0, 0), 0, 0, 0, 0},
		{s(7, 7), 0, 7, 7, 7},
		{s(-7, -7), 0, -7, 7, -7},
		{s(-most, most), 2 * most, 0, most, 0},
		{s(most-1, most), 1, most - 1, most, most - 1},
		{s(-most, 1-most), 1, -most, most, 1 - most},
	} {
		if span.Width(c.a) != c.width || span.Middle(c.a) != c.middle || span.Greatest(c.a) != c.greatest || span.Proved(c.a) != c.proved {
			t.Errorf("%v: %d %d %d %d", c.a, span.Width(c.a), span.Middle(c.a), span.Greatest(c.a), span.Proved(c.a))
		}
	}
	for _, a := range invalid() {
		if span.Width(a) != 0 || span.Middle(a) != 0 || span.Greatest(a) != 0 || span.Proved(a) != 0 {
			t.Errorf("%v: not all 0", a)
		}
	}
}

// 1.2
func TestHull(t *testing.T) {
	ok(t, "Hull", s(1, 6))(span.Hull(s(1, 2), s(5, 6)))
	ok(t, "Hull", s(1, 6))(span.Hull(s(5, 6), s(1, 2)))
	ok(t, "Hull", s(-3, 9))(span.Hull(s(-3, 9), s(0, 4)))
	ok(t, "Hull", s(-most, most))(span.Hull(s(most, most), s(-most, -most)))
}

// 1.2
func TestMeet(t *testing.T) {
	ok(t, "Meet", s(4, 5))(span.Meet(s(1, 5), s(4, 6)))
	ok(t, "Meet", s(4, 5))(span.Meet(s(4, 6), s(1, 5)))
	ok(t, "Meet", s(0, 4))(span.Meet(s(-3, 9), s(0, 4)))
	ok(t, "Meet: one number", s(3, 3))(span.Meet(s(1, 3), s(3, 5)))
	fails(t, "Meet", api.ErrNone)(span.Meet(s(1, 3), s(4, 6)))
	fails(t, "Meet", api.ErrNone)(span.Meet(s(4, 6), s(1, 3)))
	fails(t, "Meet", api.ErrNone)(span.Meet(s(most, most), s(-most, -most)))
}

// 1.2
func TestWiden(t *testing.T) {
	ok(t, "Widen", s(-2, 7))(span.Widen(s(1, 4), 3))
	ok(t, "Widen by 0", s(1, 4))(span.Widen(s(1, 4), 0))
	ok(t, "Widen", s(-most, 7))(span.Widen(s(-most, 4), 3))
	ok(t, "Widen", s(-7, most))(span.Widen(s(-4, most), 3))
	ok(t, "Widen", s(-most, most))(span.Widen(s(2-most, most-2), 3))
	ok(t, "Widen", s(1-most, most-1))(span.Widen(s(4-most, most-4), 3))
	ok(t, "Widen by the most", s(-most, most))(span.Widen(s(0, 0), most))
	ok(t, "Widen by the most", s(0, most))(span.Widen(s(most, most), most))
	ok(t, "Widen by the most", s(-most, 0))(span.Widen(s(-most, -most), most))
	for _, n := range []int{-1, most + 1, math.MaxInt, math.MinInt} {
		fails(t, "Widen", api.ErrRange)(span.Widen(s(1, 4), n))
		fails(t, "Widen", api.ErrInvalid)(span.Widen(s(4, 1), n))
	}
}
