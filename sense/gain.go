package sense

import (
	"slices"

	"shotdesk/api"
	"shotdesk/span"
)

// Gains are in thousandths.
const (
	gainUnit = 1000
	maxGain  = 1000000000 // the greatest gain that counts
)

// Gain returns the gain that a pair leaves possible.
func Gain(x api.Pair) (api.Span, api.Errno) {
	if !validPair(x) {
		return api.Span{}, api.ErrInvalid
	}
	gains := possibleGains(x)
	if gains.Lo > gains.Hi {
		return api.Span{}, api.ErrNone
	}
	if !span.Valid(gains) {
		return api.Span{}, api.ErrBig
	}
	return gains, api.OK
}

func validPair(x api.Pair) bool {
	return within(x.Value, -api.MaxValue, api.MaxValue) && span.Valid(x.Reading)
}

// possibleGains returns the gains that a valid pair leaves possible, also those that are beyond all spans; from a greater one to a lesser one if there are none.
func possibleGains(x api.Pair) api.Span {
	low, high := x.Reading.Lo*gainUnit, x.Reading.Hi*gainUnit
	switch {
	case x.Value > 0:
		return api.Span{Lo: down(low, x.Value), Hi: up(high, x.Value)}
	case x.Value < 0:
		return api.Span{Lo: down(high, x.Value), Hi: up(low, x.Value)}
	case span.Contains(x.Reading, 0):
		return everyGain()
	}
	return api.Span{Lo: 1, Hi: 0}
}

func everyGain() api.Span { return api.Span{Lo: -maxGain, Hi: maxGain} }

// narrowing returns a function that takes one pair after the other, and returns the gains that all of them so far leave possible: a span that is not valid if there are none.
func narrowing() func(x api.Pair) api.Span {
	sofar := everyGain()
	return func(x api.Pair) api.Span {
		gains := possibleGains(x)
		sofar = api.Span{Lo: max(sofar.Lo, gains.Lo), Hi: min(sofar.Hi, gains.Hi)}
		return sofar
	}
}

// Calibrate returns the gains that all pairs leave possible.
func Calibrate(l []api.Pair) (api.Span, api.Errno) {
	if !validPairs(l) {
		return api.Span{}, api.ErrInvalid
	}
	gains, next := everyGain(), narrowing()
	for _, x := range l {
		gains = next(x)
	}
	if !span.Valid(gains) {
		return api.Span{}, api.ErrNone
	}
	return gains, api.OK
}

func validPairs(l []api.Pair) bool {
	return !slices.ContainsFunc(l, func(x api.Pair) bool { return !validPair(x) })
}

// Broken returns the index of the first pair with which no gain is possible any more, or -1.
func Broken(l []api.Pair) int {
	if !validPairs(l) {
		return -1
	}
	next := narrowing()
	for i, x := range l {
		if !span.Valid(next(x)) {
			return i
		}
	}
	return -1
}
