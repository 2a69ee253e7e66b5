package plan

import (
	"slices"

	"shotdesk/api"
)

// ValidCorners reports whether corners are valid.
func ValidCorners(l []api.Corner) bool {
	if !within(len(l), 1, api.MaxCorners) || l[0].At != 0 {
		return false
	}
	least := 0
	for _, c := range l {
		if !within(c.At, least, api.MaxTicks) || !within(c.Value, -api.MaxAmp, api.MaxAmp) {
			return false
		}
		least = c.At + 1
	}
	return true
}

// Value returns the value of corners at a tick.
func Value(l []api.Corner, t int) int {
	if !ValidCorners(l) || t < 0 {
		return 0
	}
	return wave(l)(t)
}

// wave returns what tells the value of valid corners at a tick from 0 on.
func wave(l []api.Corner) func(t int) int {
	return func(t int) int {
		next := slices.IndexFunc(l, func(c api.Corner) bool { return c.At > t })
		if next < 0 {
			return l[len(l)-1].Value
		}
		from, to := l[next-1], l[next]
		return from.Value + quotient((to.Value-from.Value)*(t-from.At), to.At-from.At)
	}
}

// quotient returns a / b, rounded down, for a b above 0.
func quotient(a, b int) int {
	if a%b < 0 {
		return a/b - 1
	}
	return a / b
}

// Rises returns the least number by at most which corners rise in a tick.
func Rises(l []api.Corner) int {
	if !ValidCorners(l) {
		return 0
	}
	most, from := 0, l[0]
	for _, to := range l[1:] {
		ticks := to.At - from.At
		most = max(most, (size(to.Value-from.Value)+ticks-1)/ticks)
		from = to
	}
	return most
}

func size(n int) int { return max(n, -n) }
