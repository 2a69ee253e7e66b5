package span_test

import (
	"math"
	"math/big"
	"math/rand"
	"slices"
	"testing"

	"shotdesk/api"
	"shotdesk/span"
)

type single func(a api.Span) (api.Span, api.Errno)

type pair func(a, b api.Span) (api.Span, api.Errno)

// singles are the operations on one span, with some numbers for their other arguments.
func singles() map[string]single {
	return map[string]single{
		"Neg": span.Neg, "Square": span.Square, "Root": span.Root,
		"Widen by 2":    func(a api.Span) (api.Span, api.Errno) { return span.Widen(a, 2) },
		"Ratio 3 / 2":   func(a api.Span) (api.Span, api.Errno) { return span.Ratio(a, 3, 2) },
		"Ratio 5 / -3":  func(a api.Span) (api.Span, api.Errno) { return span.Ratio(a, 5, -3) },
		"Ratio -1 / 4":  func(a api.Span) (api.Span, api.Errno) { return span.Ratio(a, -1, 4) },
		"Ratio -7 / -1": func(a api.Span) (api.Span, api.Errno) { return span.Ratio(a, -7, -1) },
		"Ratio 0 / 1":   func(a api.Span) (api.Span, api.Errno) { return span.Ratio(a, 0, 1) },
		"Max of one":    func(a api.Span) (api.Span, api.Errno) { return span.Max([]api.Span{a}) },
		"Dot by -3":     func(a api.Span) (api.Span, api.Errno) { return span.Dot([]api.Span{a}, []int{-3}) },
	}
}

// pairs are the operations on two spans.
func pairs() map[string]pair {
	return map[string]pair{
		"Hull": span.Hull, "Meet": span.Meet, "Add": span.Add, "Sub": span.Sub, "Mul": span.Mul, "Quot": span.Quot,
		"Max":          func(a, b api.Span) (api.Span, api.Errno) { return span.Max([]api.Span{a, b}) },
		"Dot by 2, -3": func(a, b api.Span) (api.Span, api.Errno) { return span.Dot([]api.Span{a, b}, []int{2, -3}) },
	}
}

func smallSpans(from, to int) []api.Span {
	var l []api.Span
	for lo := from; lo <= to; lo++ {
		for hi := lo; hi <= to; hi++ {
			l = append(l, s(lo, hi))
		}
	}
	return l
}

// all returns the smallest span that holds the results, rounded outward, for all numbers of a and b.
func all(a, b api.Span, do func(x, y int64) *big.Rat) api.Span {
	lo, hi := math.MaxInt, math.MinInt
	for x := a.Lo; x <= a.Hi; x++ {
		for y := b.Lo; y <= b.Hi; y++ {
			r := do(int64(x), int64(y))
			down, rest := new(big.Int).DivMod(r.Num(), r.Denom(), new(big.Int))
			lo, hi = min(lo, int(down.Int64())), max(hi, int(down.Int64())+rest.Sign())
		}
	}
	return s(lo, hi)
}

func whole(n int64) *big.Rat { return big.NewRat(n, 1) }

// P1.2, P1.4, P2 and the section Spans: results are sound, and no wider than they must be
func TestAllNumbersOfTwoSpans(t *testing.T) {
	exact := map[string]func(x, y int64) *big.Rat{
		"Add": func(x, y int64) *big.Rat { return whole(x + y) },
		"Sub": func(x, y int64) *big.Rat { return whole(x - y) },
		"Mul": func(x, y int64) *big.Rat { return whole(x * y) },
		"Max": func(x, y int64) *big.Rat { return whole(max(x, y)) },
		"Quot": func(x, y int64) *big.Rat {
			return big.NewRat(x, y)
		},
		"Dot by 2, -3": func(x, y int64) *big.Rat { return whole(2*x - 3*y) },
	}
	for name, do := range exact {
		for _, a := range smallSpans(-7, 7) {
			for _, b := range smallSpans(-4, 4) {
				if name == "Quot" && b.Lo <= 0 && b.Hi >= 0 {
					continue
				}
				ok(t, name, all(a, b, do))(pairs()[name](a, b))
			}
		}
	}
}

// P1.2, P1.4, P2
func TestAllNumbersOfOneSpan(t *testing.T) {
	for _, a := range smallSpans(-9, 9) {
		ok(t, "Neg", all(a, s(0, 0), func(x, _ int64) *big.Rat { return whole(-x) }))(span.Neg(a))
		ok(t, "Square", all(a, s(0, 0), func(x, _ int64) *big.Rat { return whole(x * x) }))(span.Square(a))
		for n := -4; n <= 4; n++ {
			for _, d := range []int{-5, -3, -2, -1, 1, 2, 3, 5} {
				do := func(x, _ int64) *big.Rat { return big.NewRat(x*int64(n), int64(d)) }
				ok(t, "Ratio", all(a, s(0, 0), do))(span.Ratio(a, n, d))
			}
		}
	}
}

// P1.2
func TestRootOfAllNumbers(t *testing.T) {
	for _, a := range smallSpans(0, 60) {
		r, e := span.Root(a)
		down, up := r.Lo*r.Lo <= a.Lo && (r.Lo+1)*(r.Lo+1) > a.Lo, r.Hi*r.Hi >= a.Hi && (r.Hi-1)*(r.Hi-1) < a.Hi
		if a.Hi == 0 {
			up = r.Hi == 0
		}
		if e != api.OK || r.Lo < 0 || !down || !up {
			t.Errorf("Root of %v = %v, %d", a, r, e)
		}
	}
}

// P1.2: for Hull and Meet, which numbers the result holds
func TestHullAndMeetOfAllNumbers(t *testing.T) {
	for _, a := range smallSpans(-4, 4) {
		for _, b := range smallSpans(-4, 4) {
			hull, _ := span.Hull(a, b)
			meet, e := span.Meet(a, b)
			common := false
			for x := -6; x <= 6; x++ {
				inA, inB := a.Lo <= x && x <= a.Hi, b.Lo <= x && x <= b.Hi
				between := x >= min(a.Lo, b.Lo) && x <= max(a.Hi, b.Hi)
				common = common || inA && inB
				if span.Contains(hull, x) != between || e == api.OK && span.Contains(meet, x) != (inA && inB) {
					t.Errorf("Hull and Meet of %v and %v at %d: %v, %v", a, b, x, hull, meet)
				}
			}
			if (e == api.OK) != common || e != api.OK && (e != api.ErrNone || meet != s(0, 0)) {
				t.Errorf("Meet of %v and %v: %d", a, b, e)
			}
		}
	}
}

// within returns the spans that lie in a.
func within(a api.Span) []api.Span { return smallSpans(a.Lo, a.Hi) }

// P1.3
func TestMonotone(t *testing.T) {
	inside := func(name string, small, large api.Span, e, f api.Errno) {
		if e == api.OK && f == api.OK && (small.Lo < large.Lo || small.Hi > large.Hi) {
			t.Errorf("%s: %v is not inside %v", name, small, large)
		}
	}
	for name, f := range singles() {
		for _, a := range smallSpans(-5, 9) {
			large, e := f(a)
			for _, b := range within(a) {
				small, d := f(b)
				inside(name, small, large, d, e)
			}
		}
	}
	for name, f := range pairs() {
		for _, a := range smallSpans(-3, 3) {
			for _, b := range smallSpans(-3, 3) {
				large, e := f(a, b)
				for _, c := range within(a) {
					for _, d := range within(b) {
						small, e2 := f(c, d)
						inside(name, small, large, e2, e)
					}
				}
			}
		}
	}
}

// P1.2, P1.4, R6: the results of large numbers, against those of numbers without bounds
func TestLargeNumbers(t *testing.T) {
	random := rand.New(rand.NewSource(1))
	number := func() int {
		n := random.Intn(most+1) >> random.Intn(50)
		if random.Intn(8) == 0 {
			n = most - n
		}
		if random.Intn(2) == 0 {
			return -n
		}
		return n
	}
	made := func() api.Span {
		m, n := number(), number()
		if random.Intn(3) == 0 {
			n = max(-most, min(most, m+random.Intn(3)))
		}
		return s(min(m, n), max(m, n))
	}
	for range 30000 {
		a, b, n, d := made(), made(), number(), number()
		outcome(t, "Add", corners(a, b, (*big.Rat).Add))(span.Add(a, b))
		outcome(t, "Sub", corners(a, b, (*big.Rat).Sub))(span.Sub(a, b))
		outcome(t, "Mul", corners(a, b, (*big.Rat).Mul))(span.Mul(a, b))
		if b.Lo > 0 || b.Hi < 0 {
			outcome(t, "Quot", corners(a, b, (*big.Rat).Quo))(span.Quot(a, b))
		}
		if d != 0 {
			times := func(z, x, y *big.Rat) *big.Rat { return z.Quo(z.Mul(x, y), whole(int64(d))) }
			outcome(t, "Ratio", corners(a, s(n, n), times))(span.Ratio(a, n, d))
		}
		x, y := corners(a, s(n, n), (*big.Rat).Mul), corners(b, s(d, d), (*big.Rat).Mul)
		sum := [2]*big.Int{x[0].Add(x[0], y[0]), x[1].Add(x[1], y[1])}
		outcome(t, "Dot", sum)(span.Dot([]api.Span{a, b}, []int{n, d}))
	}
}

// corners returns the least and the greatest of what is done to ends of a and b, rounded outward.
func corners(a, b api.Span, do func(z, x, y *big.Rat) *big.Rat) (l [2]*big.Int) {
	for _, x := range []int{a.Lo, a.Hi} {
		for _, y := range []int{b.Lo, b.Hi} {
			r := do(new(big.Rat), whole(int64(x)), whole(int64(y)))
			down, rest := new(big.Int).DivMod(r.Num(), r.Denom(), new(big.Int))
			up := new(big.Int).Add(down, big.NewInt(int64(rest.Sign())))
			if l[0] == nil || down.Cmp(l[0]) < 0 {
				l[0] = down
			}
			if l[1] == nil || up.Cmp(l[1]) > 0 {
				l[1] = up
			}
		}
	}
	return l
}

// outcome returns a check for a result with these ends, which is ErrBig if they are beyond MaxValue.
func outcome(t *testing.T, call string, l [2]*big.Int) func(api.Span, api.Errno) {
	limit := big.NewInt(most)
	if l[0].CmpAbs(limit) > 0 || l[1].CmpAbs(limit) > 0 {
		return fails(t, call, api.ErrBig)
	}
	return ok(t, call, s(int(l[0].Int64()), int(l[1].Int64())))
}

// P1.1, R1, R3: calls with any arguments end, and an error comes alone
func TestAnyArguments(t *testing.T) {
	numbers := []int{math.MinInt, math.MinInt + 1, -most - 1, -most, -1, 0, 1, most, most + 1, math.MaxInt - 1, math.MaxInt}
	var l []api.Span
	for _, lo := range numbers {
		for _, hi := range numbers {
			l = append(l, s(lo, hi))
		}
	}
	check := func(name string, e api.Errno, r api.Span) {
		if e != api.OK && r != (api.Span{}) || e == api.OK && !span.Valid(r) {
			t.Errorf("%s = %v, %d", name, r, e)
		}
	}
	for _, a := range l {
		for name, f := range singles() {
			r, e := f(a)
			check(name, e, r)
		}
		for _, n := range numbers {
			r, e := span.Widen(a, n)
			check("Widen", e, r)
			r, e = span.Dot([]api.Span{a}, []int{n})
			check("Dot", e, r)
			for _, d := range numbers {
				r, e = span.Ratio(a, n, d)
				check("Ratio", e, r)
			}
			span.Contains(a, n)
		}
		for _, b := range l {
			for name, f := range pairs() {
				r, e := f(a, b)
				check(name, e, r)
			}
			span.Inside(a, b)
		}
	}
}

// R4: arguments stay as they are, also behind their ends; R7: the same call gives the same result
func TestArgumentsStay(t *testing.T) {
	spans := []api.Span{s(-2, 3), s(5, 5), s(-9, 0), s(77, 78)}
	numbers := []int{3, -1, 0, 55}
	truths := []api.Truth{yes, 9, no, yes}
	l, w, x := slices.Clone(spans), slices.Clone(numbers), slices.Clone(truths)
	for range 2 {
		ok(t, "Max", s(5, 5))(span.Max(l[:3]))
		ok(t, "Dot", s(-11, 4))(span.Dot(l[:3], w[:3]))
		if span.And(x[:2]) != maybe || span.Or(x[1:3]) != maybe {
			t.Error("And, Or")
		}
	}
	if !slices.Equal(l, spans) || !slices.Equal(w, numbers) || !slices.Equal(x, truths) {
		t.Errorf("changed: %v, %v, %v", l, w, x)
	}
}
