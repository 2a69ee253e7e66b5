package equil

import "math/bits"

// A long is a product of numbers that are not below 0.
type long struct{ high, low uint64 }

func product(a, b int) long {
	high, low := bits.Mul64(uint64(a), uint64(b))
	return long{high, low}
}

// over divides by d, which is large enough for the quotient to be an int.
func (p long) over(d int) (quotient, rest int) {
	q, r := bits.Div64(p.high, p.low, uint64(d))
	return int(q), int(r)
}

// down returns the quotient by d, rounded down.
func (p long) down(d int) int {
	quotient, _ := p.over(d)
	return quotient
}

// up returns the quotient by d, rounded up.
func (p long) up(d int) int {
	quotient, rest := p.over(d)
	if rest > 0 {
		return quotient + 1
	}
	return quotient
}
