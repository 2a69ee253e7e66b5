// Package span computes with spans of whole numbers, rounded outward, and with three-valued truths; see doc/01-span.md.
package span

import "shotdesk/api"

// Valid reports whether a span has its ends in order and within MaxValue.
func Valid(a api.Span) bool { return a.Lo <= a.Hi && inRange(a.Lo) && inRange(a.Hi) }

func inRange(n int) bool { return -api.MaxValue <= n && n <= api.MaxValue }

// Point returns the span that holds just n.
func Point(n int) (api.Span, api.Errno) { return Make(n, n) }

// Make returns the span between two numbers, whichever is the lesser.
func Make(m, n int) (api.Span, api.Errno) {
	a := api.Span{Lo: min(m, n), Hi: max(m, n)}
	if !Valid(a) {
		return api.Span{}, api.ErrBig
	}
	return a, api.OK
}

// Contains reports whether a holds n.
func Contains(a api.Span, n int) bool { return Valid(a) && a.Lo <= n && n <= a.Hi }

// Inside reports whether a lies in b.
func Inside(a, b api.Span) bool { return Valid(a) && Contains(b, a.Lo) && Contains(b, a.Hi) }

// Width returns how far apart the ends are.
func Width(a api.Span) int {
	if !Valid(a) {
		return 0
	}
	return a.Hi - a.Lo
}

// Middle returns the middle of the ends, rounded down.
func Middle(a api.Span) int {
	if !Valid(a) {
		return 0
	}
	// a shift rounds down where / would round towards 0
	return (a.Lo + a.Hi) >> 1
}

// Greatest returns the greatest absolute value of a number that a holds.
func Greatest(a api.Span) int {
	if !Valid(a) {
		return 0
	}
	return max(-a.Lo, a.Hi)
}

// Proved returns the number of a that is nearest to 0: what is sure of a quantity that a holds.
func Proved(a api.Span) int {
	if !Valid(a) {
		return 0
	}
	return max(a.Lo, min(a.Hi, 0))
}

// Hull returns the smallest span that holds all numbers of both.
func Hull(a, b api.Span) (api.Span, api.Errno) {
	if !Valid(a) || !Valid(b) {
		return api.Span{}, api.ErrInvalid
	}
	return api.Span{Lo: min(a.Lo, b.Lo), Hi: max(a.Hi, b.Hi)}, api.OK
}

// Meet returns the span of the numbers that both hold.
func Meet(a, b api.Span) (api.Span, api.Errno) {
	if !Valid(a) || !Valid(b) {
		return api.Span{}, api.ErrInvalid
	}
	both := api.Span{Lo: max(a.Lo, b.Lo), Hi: min(a.Hi, b.Hi)}
	if !Valid(both) {
		return api.Span{}, api.ErrNone
	}
	return both, api.OK
}

// Widen moves both ends outward by n, to MaxValue at most.
func Widen(a api.Span, n int) (api.Span, api.Errno) {
	if !Valid(a) {
		return api.Span{}, api.ErrInvalid
	}
	if n < 0 || n > api.MaxValue {
		return api.Span{}, api.ErrRange
	}
	return api.Span{Lo: max(a.Lo-n, -api.MaxValue), Hi: min(a.Hi+n, api.MaxValue)}, api.OK
}
