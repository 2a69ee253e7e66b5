// Package machine describes a tokamak, and what its currents do at a place; see doc/02-machine.md.
package machine

import (
	"cmp"
	"slices"

	"shotdesk/api"
)

// What a part of a machine may have at most.
const (
	maxTurns    = 100
	maxHeat     = 1000000000000
	maxCool     = 1000000000
	maxSelf     = 1000000000
	maxLoss     = 1000
	maxGridStep = 10
	maxError    = 1000000000
)

// Name reports whether s is a name.
func Name(s string) bool {
	if len(s) == 0 || len(s) > api.MaxName || !small(s[0]) {
		return false
	}
	for i := range len(s) {
		if b := s[i]; !small(b) && b != '_' && (b < '0' || b > '9') {
			return false
		}
	}
	return true
}

func small(b byte) bool { return 'a' <= b && b <= 'z' }

// Check returns the first error of a machine.
func Check(m api.Machine) api.Errno {
	return cmp.Or(
		checkName(m.Name),
		checkEach(m.Coils, api.MaxCoils, checkCoil),
		checkEach(m.Shells, api.MaxShells, checkShell),
		checkLimits(m.Limits),
		checkGrid(m.Grid),
		checkEach(m.Sensors, api.MaxSensors, checkSensor),
	)
}

// checkEach checks a list's items in their order, each against those before it.
func checkEach[T any](items []T, most int, check func(item T, earlier []T) api.Errno) api.Errno {
	if len(items) > most {
		return api.ErrLimit
	}
	for i, item := range items {
		if e := check(item, items[:i]); e != api.OK {
			return e
		}
	}
	return api.OK
}

func checkName(s string) api.Errno {
	if !Name(s) {
		return api.ErrInvalid
	}
	return api.OK
}

func checkCoil(c api.Coil, earlier []api.Coil) api.Errno {
	if !Name(c.Name) {
		return api.ErrInvalid
	}
	if coilNamed(earlier, c.Name) >= 0 {
		return api.ErrDuplicate
	}
	return checkRange(validPlace(c.R, c.Z) && within(c.Turns, 1, maxTurns) &&
		within(c.MaxCurrent, 1, api.MaxAmp) && within(c.MaxStep, 1, api.MaxAmp) &&
		within(c.MaxHeat, 1, maxHeat) && within(c.Cool, 0, maxCool))
}

func checkShell(s api.Shell, _ []api.Shell) api.Errno {
	return checkRange(validPlace(s.R, s.Z) && within(s.Self, 1, maxSelf) && within(s.Loss, 1, maxLoss))
}

func checkLimits(limits []api.Point) api.Errno {
	if len(limits) == 0 {
		return api.ErrNone
	}
	return checkEach(limits, api.MaxPoints, checkLimit)
}

func checkLimit(p api.Point, earlier []api.Point) api.Errno {
	if !validPlace(p.R, p.Z) {
		return api.ErrRange
	}
	if slices.Contains(earlier, p) {
		return api.ErrDuplicate
	}
	return api.OK
}

func checkGrid(g api.Grid) api.Errno {
	sized := within(g.NR, 1, api.MaxSide) && within(g.NZ, 1, api.MaxSide) && within(g.Step, 1, maxGridStep)
	if !sized || !validPlace(g.R, g.Z) {
		return api.ErrRange
	}
	last := cellPlace(g, g.NR*g.NZ-1)
	return checkRange(validPlace(last.R, last.Z))
}

func checkSensor(s api.Sensor, earlier []api.Sensor) api.Errno {
	if !Name(s.Name) {
		return api.ErrInvalid
	}
	if sensorNamed(earlier, s.Name) >= 0 {
		return api.ErrDuplicate
	}
	return checkRange(within(s.Kind, api.SFlux, api.SVertical) && validPlace(s.R, s.Z) && within(s.Error, 0, maxError))
}

func checkRange(inside bool) api.Errno {
	if !inside {
		return api.ErrRange
	}
	return api.OK
}

func validPlace(r, z int) bool { return near(r, z, api.MaxPlace) }

func near(r, z, far int) bool { return within(r, -far, far) && within(z, -far, far) }

func within(n, from, to int) bool { return from <= n && n <= to }
