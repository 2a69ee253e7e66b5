package machine

import (
	"slices"

	"shotdesk/api"
)

// Quiet returns currents that are all 0.
func Quiet(m api.Machine) api.Currents {
	if Check(m) != api.OK {
		return api.Currents{}
	}
	return api.Currents{
		Coils:  make([]int, len(m.Coils)),
		Shells: make([]int, len(m.Shells)),
		Plasma: make([]int, cells(m.Grid)),
	}
}

// ValidCurrents reports whether currents are valid for a machine.
func ValidCurrents(m api.Machine, c api.Currents) bool {
	return Check(m) == api.OK &&
		len(c.Coils) == len(m.Coils) && allWithin(c.Coils, -api.MaxAmp, api.MaxAmp) &&
		len(c.Shells) == len(m.Shells) && allWithin(c.Shells, -api.MaxAmp, api.MaxAmp) &&
		len(c.Plasma) == cells(m.Grid) && allWithin(c.Plasma, 0, api.MaxAmp) && Total(c) <= api.MaxAmp
}

func allWithin(list []int, from, to int) bool {
	return !slices.ContainsFunc(list, func(n int) bool { return !within(n, from, to) })
}

// Total returns the sum of the cells' currents.
func Total(c api.Currents) int {
	sum := 0
	for _, n := range c.Plasma {
		sum += n
	}
	return sum
}
