// Package sense tells what sensors read, where the plasma may be by their readings, and which of them must be lying; see doc/04-sense.md.
package sense

import (
	"slices"

	"shotdesk/api"
	"shotdesk/machine"
	"shotdesk/span"
)

// lastTick is the greatest tick of a reading, and of a fault.
const lastTick = 1000000000

// maxFaulty is how far from 0 a value may be behind a fault.
const maxFaulty = api.MaxValue / 2

// The multipliers of Mix.
const (
	firstMixer  = 2654435761
	secondMixer = 2246822507
)

// A faultKind says with which word the lines of a kind of faults begin, and how far from 0 their N may be.
type faultKind struct {
	word string
	most int
}

var faultKinds = [...]faultKind{
	api.FOffset: {"offset", api.MaxValue},
	api.FGain:   {"gain", 100000},
	api.FCut:    {"cut", 0},
}

// ValidFaults reports whether faults are valid for a machine.
func ValidFaults(m api.Machine, l []api.Fault) bool {
	return machine.Check(m) == api.OK && len(l) <= api.MaxFaults &&
		!slices.ContainsFunc(l, func(f api.Fault) bool { return !validFault(m, f) })
}

func validFault(m api.Machine, f api.Fault) bool {
	if !within(f.Kind, api.FOffset, api.FCut) {
		return false
	}
	most := faultKinds[f.Kind].most
	return within(f.At, 0, lastTick) && within(f.Sensor, 0, len(m.Sensors)-1) && within(f.N, -most, most)
}

func within(n, from, to int) bool { return from <= n && n <= to }

// ValidReadings reports whether there is a valid span for each sensor of a machine.
func ValidReadings(m api.Machine, r []api.Span) bool {
	return machine.Check(m) == api.OK && len(r) == len(m.Sensors) &&
		!slices.ContainsFunc(r, func(a api.Span) bool { return !span.Valid(a) })
}

// Mix makes of a seed and two numbers one that looks like chance.
func Mix(seed, a, b uint32) uint32 {
	h := seed
	for _, v := range [...]uint32{a, b} {
		h ^= v
		h *= firstMixer
		h ^= h >> 15
		h *= secondMixer
		h ^= h >> 13
	}
	return h
}

// Read returns what the sensors read at a tick.
func Read(m api.Machine, c api.Currents, s api.Scene, tick int) ([]api.Span, api.Errno) {
	if !machine.ValidCurrents(m, c) || !ValidFaults(m, s.Faults) {
		return nil, api.ErrInvalid
	}
	if !within(tick, 0, lastTick) {
		return nil, api.ErrRange
	}
	list := make([]api.Span, len(m.Sensors))
	for k, sensor := range m.Sensors {
		value, _ := machine.Exact(m, c, k)
		value = faulty(value, s.Faults, k, tick)
		value += int(Mix(s.Seed, uint32(tick), uint32(k)))%(2*sensor.Error+1) - sensor.Error
		list[k] = api.Span{Lo: value - sensor.Error, Hi: value + sensor.Error}
	}
	return list, api.OK
}

// faulty returns what the faults that a sensor has at a tick make of its value.
func faulty(value int, l []api.Fault, sensor, tick int) int {
	for _, f := range l {
		if f.Sensor == sensor && f.At <= tick {
			value = max(-maxFaulty, min(effect(f.Kind)(value, f.N), maxFaulty))
		}
	}
	return value
}

// effect returns what a kind of faults makes of a value and N.
func effect(kind int) func(value, n int) int {
	effects := [...]func(value, n int) int{
		api.FOffset: func(value, n int) int { return value + n },
		api.FGain:   gained,
		api.FCut:    func(int, int) int { return 0 },
	}
	return effects[kind]
}

// gained returns value * n / gainUnit, rounded down.
func gained(value, n int) int {
	// the product may be too long for an int; that of n and what whole units leave of the value is not
	return value/gainUnit*n + down(value%gainUnit*n, gainUnit)
}
