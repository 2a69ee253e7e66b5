package shape

import (
	"slices"

	"shotdesk/api"
	"shotdesk/span"
)

const maxBounds = 16

// A quantity is what bounds of a kind are about: their word in texts, and where a shape has it.
type quantity struct {
	word string
	of   func(api.Shape) api.Span
}

// quantities returns the quantities by their kinds; there is none of the kind 0.
func quantities() [api.BLift + 1]quantity {
	return [...]quantity{
		api.BRadius: {"radius", func(s api.Shape) api.Span { return s.Radius }},
		api.BHeight: {"height", func(s api.Shape) api.Span { return s.Height }},
		api.BArea:   {"area", func(s api.Shape) api.Span { return s.Area }},
		api.BTop:    {"top", func(s api.Shape) api.Span { return s.Top }},
		api.BBottom: {"bottom", func(s api.Shape) api.Span { return s.Bottom }},
		api.BInner:  {"inner", func(s api.Shape) api.Span { return s.Inner }},
		api.BOuter:  {"outer", func(s api.Shape) api.Span { return s.Outer }},
		api.BLift:   {"lift", func(s api.Shape) api.Span { return s.Lift }},
	}
}

func validKind(kind int) bool { return within(kind, api.BRadius, api.BLift) }

// ValidBounds reports whether bounds are valid.
func ValidBounds(l []api.Bound) bool {
	return len(l) <= maxBounds &&
		!slices.ContainsFunc(l, func(b api.Bound) bool { return !validKind(b.Kind) || !span.Valid(b.Keep) })
}

// ValidShape reports whether all spans of a shape are valid.
func ValidShape(s api.Shape) bool {
	list := quantities()
	return !slices.ContainsFunc(list[api.BRadius:], func(q quantity) bool { return !span.Valid(q.of(s)) })
}

// Quantity returns a shape's quantity of a kind.
func Quantity(s api.Shape, kind int) (api.Span, api.Errno) {
	if !ValidShape(s) {
		return api.Span{}, api.ErrInvalid
	}
	if !validKind(kind) {
		return api.Span{}, api.ErrRange
	}
	return quantities()[kind].of(s), api.OK
}

// Kept returns for each bound whether a shape keeps it.
func Kept(l []api.Bound, s api.Shape) ([]api.Truth, api.Errno) {
	if !ValidBounds(l) || !ValidShape(s) {
		return nil, api.ErrInvalid
	}
	list := make([]api.Truth, len(l))
	for i, b := range l {
		list[i] = span.Lies(quantities()[b.Kind].of(s), b.Keep)
	}
	return list, api.OK
}

// Moved returns how far the centre is from that of a to that of b.
func Moved(a, b api.Shape) (r, z api.Span, e api.Errno) {
	if !ValidShape(a) || !ValidShape(b) {
		return api.Span{}, api.Span{}, api.ErrInvalid
	}
	r, tooFarR := span.Sub(b.Radius, a.Radius)
	z, tooFarZ := span.Sub(b.Height, a.Height)
	if tooFarR != api.OK || tooFarZ != api.OK {
		return api.Span{}, api.Span{}, api.ErrBig
	}
	return r, z, api.OK
}
