package span

import "shotdesk/api"

// maxTerms is how many spans Dot takes.
const maxTerms = 1000

// fold joins the items of a list, in order and with their places, to what there is so far.
func fold[T, R any](l []T, sofar R, join func(sofar R, i int, x T) R) R {
	for i, x := range l {
		sofar = join(sofar, i, x)
	}
	return sofar
}

func allValid(l []api.Span) bool {
	return fold(l, true, func(sofar bool, _ int, a api.Span) bool { return sofar && Valid(a) })
}

// spread returns the ends of what is done to the numbers of a and b. Their ends tell: while one number stays, a result only rises or only falls with the other.
func spread(a, b api.Span, do func(x, y int) ends) ends {
	low := do(a.Lo, b.Lo).hull(do(a.Lo, b.Hi))
	high := do(a.Hi, b.Lo).hull(do(a.Hi, b.Hi))
	return low.hull(high)
}

// combine is spread for arguments that may not be valid.
func combine(a, b api.Span, do func(x, y int) ends) (api.Span, api.Errno) {
	if !Valid(a) || !Valid(b) {
		return api.Span{}, api.ErrInvalid
	}
	return spread(a, b, do).span()
}

func multiplied(x, y int) ends { return only(product(x, y)) }

// Neg returns the negative of a.
func Neg(a api.Span) (api.Span, api.Errno) { return Sub(api.Span{}, a) }

// Add returns the sum.
func Add(a, b api.Span) (api.Span, api.Errno) {
	return combine(a, b, func(x, y int) ends { return only(number(x + y)) })
}

// Sub returns the difference.
func Sub(a, b api.Span) (api.Span, api.Errno) {
	return combine(a, b, func(x, y int) ends { return only(number(x - y)) })
}

// Mul returns the product.
func Mul(a, b api.Span) (api.Span, api.Errno) { return combine(a, b, multiplied) }

// Quot returns the quotient, rounded outward.
func Quot(a, b api.Span) (api.Span, api.Errno) {
	// combine reports an a that is not valid, which comes before a division by zero
	if Valid(a) && Contains(b, 0) {
		return api.Span{}, api.ErrZero
	}
	return combine(a, b, func(x, y int) ends { return number(x).over(y) })
}

// Ratio returns a * n / d, rounded outward.
func Ratio(a api.Span, n, d int) (api.Span, api.Errno) {
	if !Valid(a) {
		return api.Span{}, api.ErrInvalid
	}
	if d == 0 {
		return api.Span{}, api.ErrZero
	}
	if !inRange(n) || !inRange(d) {
		return api.Span{}, api.ErrRange
	}
	times := api.Span{Lo: n, Hi: n}
	return combine(a, times, func(x, y int) ends { return product(x, y).over(d) })
}

// Square returns the squares of the numbers of a, each with itself, so that none is below 0.
func Square(a api.Span) (api.Span, api.Errno) {
	if !Valid(a) {
		return api.Span{}, api.ErrInvalid
	}
	least, most := Proved(a), Greatest(a)
	return ends{product(least, least), product(most, most)}.span()
}

// Root returns the square root, rounded outward.
func Root(a api.Span) (api.Span, api.Errno) {
	if !Valid(a) {
		return api.Span{}, api.ErrInvalid
	}
	if a.Lo < 0 {
		return api.Span{}, api.ErrRange
	}
	up := rootDown(a.Hi)
	if up*up < a.Hi {
		up++
	}
	return api.Span{Lo: rootDown(a.Lo), Hi: up}, api.OK
}

// rootDown finds the bits of a root from the highest on: that of MaxValue has 25.
func rootDown(n int) int {
	root := 0
	for bit := 1 << 24; bit > 0; bit >>= 1 {
		if next := root + bit; next*next <= n {
			root = next
		}
	}
	return root
}

// Max returns the span of the greatest of some numbers, one of each span.
func Max(l []api.Span) (api.Span, api.Errno) {
	if !allValid(l) {
		return api.Span{}, api.ErrInvalid
	}
	if len(l) == 0 {
		return api.Span{}, api.ErrNone
	}
	return fold(l, l[0], func(most api.Span, _ int, a api.Span) api.Span {
		return api.Span{Lo: max(most.Lo, a.Lo), Hi: max(most.Hi, a.Hi)}
	}), api.OK
}

// Dot returns the sum of the products of the spans with the numbers w.
func Dot(l []api.Span, w []int) (api.Span, api.Errno) {
	if !allValid(l) {
		return api.Span{}, api.ErrInvalid
	}
	if len(l) > maxTerms {
		return api.Span{}, api.ErrLimit
	}
	if len(w) != len(l) || !allInRange(w) {
		return api.Span{}, api.ErrRange
	}
	return fold(l, ends{}, func(sum ends, i int, a api.Span) ends {
		return sum.plus(spread(a, api.Span{Lo: w[i], Hi: w[i]}, multiplied))
	}).span()
}

func allInRange(w []int) bool {
	return fold(w, true, func(sofar bool, _, n int) bool { return sofar && inRange(n) })
}
