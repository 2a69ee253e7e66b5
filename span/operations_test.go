package span_test

import (
	"math"
	"testing"

	"shotdesk/api"
	"shotdesk/span"
)

// 1.3
func TestSums(t *testing.T) {
	ok(t, "Neg", s(-4, 1))(span.Neg(s(-1, 4)))
	ok(t, "Neg", s(0, 0))(span.Neg(s(0, 0)))
	ok(t, "Neg", s(-most, most))(span.Neg(s(-most, most)))
	ok(t, "Add", s(-3, 9))(span.Add(s(1, 3), s(-4, 6)))
	ok(t, "Add", s(most, most))(span.Add(s(most, most), s(0, 0)))
	ok(t, "Add", s(0, 0))(span.Add(s(most, most), s(-most, -most)))
	fails(t, "Add", api.ErrBig)(span.Add(s(1, most), s(1, 1)))
	fails(t, "Add", api.ErrBig)(span.Add(s(-most, 1), s(-1, 1)))
	fails(t, "Add", api.ErrBig)(span.Add(s(-most, most), s(-most, most)))
	ok(t, "Sub", s(-5, 7))(span.Sub(s(1, 3), s(-4, 6)))
	ok(t, "Sub", s(-most, most))(span.Sub(s(0, 0), s(-most, most)))
	fails(t, "Sub", api.ErrBig)(span.Sub(s(most, most), s(-1, 0)))
	fails(t, "Sub", api.ErrBig)(span.Sub(s(-most, 0), s(0, 1)))
}

// Details: the arguments are independent of each other
func TestSameSpanTwice(t *testing.T) {
	ok(t, "Sub", s(-2, 2))(span.Sub(s(1, 3), s(1, 3)))
	ok(t, "Sub of a point", s(0, 0))(span.Sub(s(7, 7), s(7, 7)))
	ok(t, "Mul", s(-6, 9))(span.Mul(s(-2, 3), s(-2, 3)))
	ok(t, "Square", s(0, 9))(span.Square(s(-2, 3)))
	ok(t, "Quot", s(0, 3))(span.Quot(s(1, 3), s(1, 3)))
	ok(t, "Dot", s(-2, 2))(span.Dot([]api.Span{s(1, 3), s(1, 3)}, []int{1, -1}))
}

// 1.3
func TestMul(t *testing.T) {
	ok(t, "Mul", s(-10, 15))(span.Mul(s(-2, 3), s(4, 5)))
	ok(t, "Mul", s(-12, 15))(span.Mul(s(-2, 3), s(-4, 5)))
	ok(t, "Mul", s(8, 15))(span.Mul(s(-3, -2), s(-5, -4)))
	ok(t, "Mul", s(0, 0))(span.Mul(s(-most, most), s(0, 0)))
	ok(t, "Mul", s(-most, most))(span.Mul(s(-most, most), s(-1, 1)))
	ok(t, "Mul", s(-most, -most))(span.Mul(s(1000000, 1000000), s(-1000000000, -1000000000)))
	fails(t, "Mul", api.ErrBig)(span.Mul(s(1000000, 1000000), s(0, 1000000001)))
	fails(t, "Mul", api.ErrBig)(span.Mul(s(-1000000, 1), s(0, 1000000001)))
	fails(t, "Mul", api.ErrBig)(span.Mul(s(-most, most), s(-most, most)))
	// 2^64 and 2^80 have no low bits, and 2^64 + 2^32 few
	fails(t, "Mul", api.ErrBig)(span.Mul(s(1<<32, 1<<32), s(1<<32, 1<<32)))
	fails(t, "Mul", api.ErrBig)(span.Mul(s(1<<40, 1<<40), s(-1<<40, -1<<40)))
	fails(t, "Mul", api.ErrBig)(span.Mul(s(1<<32, 1<<32), s(1<<32+1, 1<<32+1)))
	// just one end of the result is beyond 64 bits
	fails(t, "Mul", api.ErrBig)(span.Mul(s(1, 1<<33), s(1<<31, 1<<31)))
	fails(t, "Mul", api.ErrBig)(span.Mul(s(-1<<33, -1), s(1<<31, 1<<31)))
}

// 1.3
func TestQuot(t *testing.T) {
	ok(t, "Quot", s(1, 5))(span.Quot(s(7, 9), s(2, 4)))
	ok(t, "Quot", s(-5, 4))(span.Quot(s(-7, 9), s(-4, -2)))
	ok(t, "Quot", s(-4, 5))(span.Quot(s(-7, 9), s(2, 4)))
	ok(t, "Quot", s(2, 3))(span.Quot(s(6, 9), s(3, 3)))
	ok(t, "Quot", s(-3, -2))(span.Quot(s(6, 9), s(-3, -3)))
	ok(t, "Quot", s(0, 1))(span.Quot(s(1, 1), s(most, most)))
	ok(t, "Quot", s(-1, 0))(span.Quot(s(-1, -1), s(most, most)))
	ok(t, "Quot", s(-1, 0))(span.Quot(s(1, 1), s(-most, -most)))
	ok(t, "Quot", s(-most, most))(span.Quot(s(-most, most), s(-1, -1)))
	ok(t, "Quot", s(0, 0))(span.Quot(s(0, 0), s(1, most)))
	for _, b := range []api.Span{s(0, 0), s(-1, 4), s(0, 3), s(-3, 0), s(-most, most)} {
		fails(t, "Quot", api.ErrZero)(span.Quot(s(7, 9), b))
		fails(t, "Quot", api.ErrZero)(span.Quot(s(0, 0), b))
		fails(t, "Quot", api.ErrInvalid)(span.Quot(s(9, 7), b))
	}
}

// 1.3
func TestRatio(t *testing.T) {
	ok(t, "Ratio", s(-11, 8))(span.Ratio(s(-5, 7), -3, 2))
	ok(t, "Ratio", s(-8, 11))(span.Ratio(s(-5, 7), 3, 2))
	ok(t, "Ratio", s(-11, 8))(span.Ratio(s(-5, 7), 3, -2))
	ok(t, "Ratio", s(-8, 11))(span.Ratio(s(-5, 7), -3, -2))
	ok(t, "Ratio", s(-3, 6))(span.Ratio(s(-2, 4), 3, 2))
	ok(t, "Ratio", s(0, 0))(span.Ratio(s(-5, 7), 0, 2))
	ok(t, "Ratio", s(0, 1))(span.Ratio(s(1, 1), 1, most))
	ok(t, "Ratio", s(-1, 0))(span.Ratio(s(1, 1), -1, most))
	ok(t, "Ratio", s(-most, most))(span.Ratio(s(-most, most), most, most))
	ok(t, "Ratio", s(-most, most))(span.Ratio(s(-most, most), -most, most))
	ok(t, "Ratio", s(most-2, most-1))(span.Ratio(s(most-1, most-1), most-1, most))
	fails(t, "Ratio", api.ErrBig)(span.Ratio(s(0, most), most, most-1))
	fails(t, "Ratio", api.ErrBig)(span.Ratio(s(0, most), most, 1-most))
	fails(t, "Ratio", api.ErrBig)(span.Ratio(s(most, most), most, 1))
	fails(t, "Ratio", api.ErrBig)(span.Ratio(s(1<<32, 1<<32), 1<<33, 2))
	for _, n := range []int{most + 1, -most - 1, math.MaxInt, math.MinInt} {
		fails(t, "Ratio", api.ErrRange)(span.Ratio(s(0, 0), n, 1))
		fails(t, "Ratio", api.ErrRange)(span.Ratio(s(0, 0), 1, n))
		fails(t, "Ratio", api.ErrZero)(span.Ratio(s(0, 0), n, 0))
		fails(t, "Ratio", api.ErrInvalid)(span.Ratio(s(1, 0), n, 0))
		fails(t, "Ratio", api.ErrInvalid)(span.Ratio(s(1, 0), n, 1))
	}
	fails(t, "Ratio", api.ErrZero)(span.Ratio(s(0, 0), 0, 0))
}

// 1.3
func TestSquare(t *testing.T) {
	ok(t, "Square", s(0, 9))(span.Square(s(-3, 2)))
	ok(t, "Square", s(0, 9))(span.Square(s(-2, 3)))
	ok(t, "Square", s(4, 9))(span.Square(s(-3, -2)))
	ok(t, "Square", s(4, 9))(span.Square(s(2, 3)))
	ok(t, "Square", s(0, 0))(span.Square(s(0, 0)))
	ok(t, "Square", s(0, 31622776*31622776))(span.Square(s(-31622776, 0)))
	fails(t, "Square", api.ErrBig)(span.Square(s(-31622777, 0)))
	fails(t, "Square", api.ErrBig)(span.Square(s(0, 31622777)))
	fails(t, "Square", api.ErrBig)(span.Square(s(1<<32, 1<<32)))
	fails(t, "Square", api.ErrBig)(span.Square(s(-most, most)))
}

// 1.3
func TestRoot(t *testing.T) {
	ok(t, "Root", s(1, 4))(span.Root(s(2, 10)))
	ok(t, "Root", s(2, 3))(span.Root(s(4, 9)))
	ok(t, "Root", s(0, 0))(span.Root(s(0, 0)))
	ok(t, "Root", s(0, 31622777))(span.Root(s(0, most)))
	ok(t, "Root", s(31622776, 31622777))(span.Root(s(most, most)))
	for _, n := range []int{2, 3, 4, 5, 1000, 4095, 4096, 1 << 24, 16777217, 31622776} {
		ok(t, "Root", s(n, n))(span.Root(s(n*n, n*n)))
		ok(t, "Root", s(n-1, n))(span.Root(s(n*n-1, n*n-1)))
		ok(t, "Root", s(n, n+1))(span.Root(s(n*n+1, n*n+1)))
	}
	fails(t, "Root", api.ErrRange)(span.Root(s(-1, 4)))
	fails(t, "Root", api.ErrRange)(span.Root(s(-4, -1)))
	fails(t, "Root", api.ErrInvalid)(span.Root(s(-1, -4)))
}

// 1.3
func TestMax(t *testing.T) {
	ok(t, "Max", s(3, 10))(span.Max([]api.Span{s(1, 9), s(3, 4), s(-5, 10)}))
	ok(t, "Max", s(-2, -1))(span.Max([]api.Span{s(-9, -1), s(-2, -2)}))
	ok(t, "Max of one", s(-9, -3))(span.Max([]api.Span{s(-9, -3)}))
	ok(t, "Max", s(most, most))(span.Max([]api.Span{s(-most, most), s(most, most)}))
	fails(t, "Max of nothing", api.ErrNone)(span.Max(nil))
	fails(t, "Max of nothing", api.ErrNone)(span.Max([]api.Span{}))
	long := make([]api.Span, 5000)
	long[4999] = s(2, 3)
	ok(t, "Max of many", s(2, 3))(span.Max(long))
}

// 1.3
func TestDot(t *testing.T) {
	ok(t, "Dot", s(5, 17))(span.Dot([]api.Span{s(1, 2), s(3, 5)}, []int{10, -1}))
	ok(t, "Dot", s(-10, 9))(span.Dot([]api.Span{s(-1, 2), s(3, 3), s(-2, 2)}, []int{-1, 0, 4}))
	ok(t, "Dot of nothing", s(0, 0))(span.Dot(nil, nil))
	ok(t, "Dot of nothing", s(0, 0))(span.Dot([]api.Span{}, nil))
	ok(t, "Dot", s(most, most))(span.Dot([]api.Span{s(1, 1), s(7, 8)}, []int{most, 0}))
	fails(t, "Dot", api.ErrBig)(span.Dot([]api.Span{s(1, 1), s(0, 1)}, []int{most, 1}))
	fails(t, "Dot", api.ErrBig)(span.Dot([]api.Span{s(1, 1), s(0, 1)}, []int{-most, -1}))
	fails(t, "Dot", api.ErrBig)(span.Dot([]api.Span{s(1<<32, 1<<32)}, []int{1 << 32}))
}

// 1.3: the sums in between are exact, however large
func TestDotOfLargeNumbers(t *testing.T) {
	top := s(most, most)
	ok(t, "Dot", s(7, 8))(span.Dot([]api.Span{top, top, s(7, 8)}, []int{most, -most, 1}))
	ok(t, "Dot", s(-8, -7))(span.Dot([]api.Span{top, s(7, 8), top}, []int{-most, -1, most}))
	ok(t, "Dot", s(-most, 0))(span.Dot([]api.Span{s(most-1, most), top}, []int{most, -most}))
	var l []api.Span
	var w []int
	for i := range 1000 {
		l = append(l, s(most, most))
		w = append(w, most-2*most*(i/500))
	}
	ok(t, "Dot of 1,000", s(0, 0))(span.Dot(l, w))
	l[999] = s(most-1, most-1)
	ok(t, "Dot of 1,000", s(most, most))(span.Dot(l, w))
	w[0]--
	ok(t, "Dot of 1,000", s(0, 0))(span.Dot(l, w))
	w[0] = -most
	fails(t, "Dot of 1,000", api.ErrBig)(span.Dot(l, w))
}

// 1.3, Details: ErrInvalid, ErrLimit, ErrRange
func TestErrorsOfDot(t *testing.T) {
	fails(t, "Dot", api.ErrRange)(span.Dot([]api.Span{s(1, 2)}, nil))
	fails(t, "Dot", api.ErrRange)(span.Dot([]api.Span{s(1, 2)}, []int{1, 1}))
	fails(t, "Dot", api.ErrRange)(span.Dot(nil, []int{1}))
	for _, n := range []int{most + 1, -most - 1, math.MaxInt, math.MinInt} {
		fails(t, "Dot", api.ErrRange)(span.Dot([]api.Span{s(0, 0), s(0, 0)}, []int{1, n}))
		fails(t, "Dot", api.ErrRange)(span.Dot([]api.Span{s(0, 0), s(0, 0)}, []int{n, 1}))
		fails(t, "Dot", api.ErrInvalid)(span.Dot([]api.Span{s(0, 0), s(1, 0)}, []int{n, 1}))
	}
	l, w := make([]api.Span, 1001), make([]int, 1001)
	ok(t, "Dot of 1,000", s(0, 0))(span.Dot(l[:1000], w[:1000]))
	fails(t, "Dot of 1,001", api.ErrLimit)(span.Dot(l, w))
	fails(t, "Dot of 1,001", api.ErrLimit)(span.Dot(l, w[:1000]))
	fails(t, "Dot of 1,001", api.ErrLimit)(span.Dot(l, nil))
	fails(t, "Dot of 1,000", api.ErrRange)(span.Dot(l[:1000], w))
	w[0] = most + 1
	fails(t, "Dot of 1,001", api.ErrLimit)(span.Dot(l, w))
	l[1000] = s(1, 0)
	fails(t, "Dot of 1,001", api.ErrInvalid)(span.Dot(l, w))
	fails(t, "Dot of 1,001", api.ErrInvalid)(span.Dot(l, nil))
}

// Functions: a span that is not valid is the first error
func TestInvalidArguments(t *testing.T) {
	for _, a := range invalid() {
		for name, f := range singles() {
			fails(t, name, api.ErrInvalid)(f(a))
		}
		fails(t, "Dot", api.ErrInvalid)(span.Dot([]api.Span{s(0, 0), a}, []int{1, 1}))
		fails(t, "Dot", api.ErrInvalid)(span.Dot([]api.Span{a, s(0, 0)}, nil))
		for _, b := range append(invalid(), s(-1, 1), s(most, most), s(-most, -most), s(0, 0)) {
			for name, f := range pairs() {
				fails(t, name, api.ErrInvalid)(f(a, b))
				fails(t, name, api.ErrInvalid)(f(b, a))
			}
		}
	}
}
