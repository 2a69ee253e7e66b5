package guard

import (
	"slices"

	"shotdesk/api"
)

const (
	maxWait   = 1000 // of For, Doubt and Clear
	maxStreak = 1000000
)

// ValidRules reports whether rules are valid.
func ValidRules(l []api.Rule) bool {
	if len(l) > api.MaxRules {
		return false
	}
	for i, x := range l {
		named := func(earlier api.Rule) bool { return earlier.Name == x.Name }
		if !validRule(x) || slices.ContainsFunc(l[:i], named) {
			return false
		}
	}
	return true
}

func validRule(x api.Rule) bool {
	return validName(x.Name) && ValidCond(x.When) && within(x.For, 1, maxWait) && within(x.Doubt, 0, maxWait) &&
		within(x.Mode, warnMode, offMode) && within(x.Clear, 0, maxWait)
}

// ValidGuard reports whether a guard is valid for rules.
func ValidGuard(l []api.Rule, g api.Guard) bool {
	return ValidRules(l) && len(g.Watches) == len(l) && !slices.ContainsFunc(g.Watches, outOfRange) && validMode(g.Mode)
}

func outOfRange(w api.Watch) bool {
	return !within(w.True, 0, maxStreak) || !within(w.Open, 0, maxStreak) || !within(w.False, 0, maxStreak)
}
