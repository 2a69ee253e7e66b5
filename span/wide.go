package span

import (
	"math/bits"

	"shotdesk/api"
)

// wide is a whole number of 128 bits in two's complement: a product of numbers of spans, and a sum of 1,000 such products, are far from its ends.
type wide struct{ high, low uint64 }

func number(n int) wide { return wide{uint64(n >> 63), uint64(n)} }

func size(n int) uint64 {
	if n < 0 {
		return uint64(-n)
	}
	return uint64(n)
}

// product multiplies sizes and puts the sign back, because Mul64 knows no signs.
func product(m, n int) wide {
	high, low := bits.Mul64(size(m), size(n))
	return wide{high, low}.signed((m < 0) != (n < 0))
}

func (a wide) negative() bool { return int64(a.high) < 0 }

// signed returns the negative of a if minus is true, and a otherwise.
func (a wide) signed(minus bool) wide {
	if !minus {
		return a
	}
	return wide{^a.high, ^a.low}.plus(number(1))
}

func (a wide) plus(b wide) wide {
	low, carry := bits.Add64(a.low, b.low, 0)
	high, _ := bits.Add64(a.high, b.high, carry)
	return wide{high, low}
}

func (a wide) below(b wide) bool {
	if a.high != b.high {
		return int64(a.high) < int64(b.high)
	}
	return a.low < b.low
}

// over divides by d, which is not 0: the quotient rounded down and rounded up.
func (a wide) over(d int) ends {
	minus := a.negative() != (d < 0)
	n, m := a.signed(a.negative()), size(d)
	low, rest := bits.Div64(n.high%m, n.low, m)
	near := wide{n.high / m, low}
	far := near
	if rest > 0 {
		far = near.plus(number(1))
	}
	// near is the quotient rounded towards 0, which is up if it is negative
	if minus {
		return ends{far.signed(true), near.signed(true)}
	}
	return ends{near, far}
}

// narrow returns a as an int, and whether it is one.
func (a wide) narrow() (int, bool) {
	n := int(a.low)
	return n, number(n) == a
}

// ends are the ends of a result, of which it is not yet known whether they are those of a valid span.
type ends struct{ low, high wide }

func only(a wide) ends { return ends{a, a} }

// hull returns the ends of what has the numbers of both.
func (e ends) hull(f ends) ends {
	if f.low.below(e.low) {
		e.low = f.low
	}
	if e.high.below(f.high) {
		e.high = f.high
	}
	return e
}

func (e ends) plus(f ends) ends { return ends{e.low.plus(f.low), e.high.plus(f.high)} }

func (e ends) span() (api.Span, api.Errno) {
	lo, loFits := e.low.narrow()
	hi, hiFits := e.high.narrow()
	if !loFits || !hiFits {
		return api.Span{}, api.ErrBig
	}
	return Make(lo, hi)
}
