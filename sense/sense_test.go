package sense_test

import (
	"math"
	"math/rand"
	"strconv"

	"shotdesk/api"
	"shotdesk/machine"
)

const lastTick = 1000000000

// wild are numbers that are in no range.
var wild = []int{math.MinInt, math.MinInt + 1, -1 << 62, -api.MaxValue - 1, api.MaxValue + 1, 1 << 62, math.MaxInt - 1, math.MaxInt}

func sp(lo, hi int) api.Span { return api.Span{Lo: lo, Hi: hi} }

// toy is a machine with 2 by 2 cells at (3, 4), (5, 4), (3, 6) and (5, 6), and with a sensor of each kind, whose responses to them are known.
func toy() api.Machine {
	return api.Machine{
		Name:   "toy",
		Coils:  []api.Coil{{Name: "oh", R: -60, Z: 60, Turns: 2, MaxCurrent: 1000, MaxStep: 100, MaxHeat: 5000, Cool: 50}},
		Shells: []api.Shell{{R: 43, Z: 12, Self: 1000, Loss: 100}},
		Limits: []api.Point{{R: 8, Z: 0}},
		Grid:   api.Grid{R: 3, Z: 4, NR: 2, NZ: 2, Step: 2},
		Sensors: []api.Sensor{
			{Name: "a", Kind: api.SFlux, Error: 10},
			{Name: "b2", Kind: api.SRadial, R: 3, Z: 5},
			{Name: "c_", Kind: api.SVertical, R: 4, Z: 4, Error: 3},
			{Name: "d", Kind: api.SRadial, R: 4, Z: 4, Error: 5},
		},
	}
}

// responses are those of the toy's sensors to its cells.
var responses = [][]int{
	{34482, 22222, 20408, 15384},
	{125000, 41667, -125000, -41667},
	{-125000, 125000, -41667, 41667},
	{0, 0, 71428 - 166666, 71428 - 166666},
}

// lit are currents of the toy: the shell alone gives the flux sensor the background 1,000.
func lit() api.Currents {
	return api.Currents{Coils: []int{0}, Shells: []int{2}, Plasma: []int{1, 20, 300, 4000}}
}

// anything are readings that say nothing.
func anything(m api.Machine) []api.Span {
	var r []api.Span
	for range m.Sensors {
		r = append(r, sp(-api.MaxValue, api.MaxValue))
	}
	return r
}

// bare is a machine of one cell, without sensors, coils and shells.
func bare(sensors ...api.Sensor) api.Machine {
	return api.Machine{Name: "m", Limits: []api.Point{{}}, Grid: api.Grid{NR: 1, NZ: 1, Step: 1}, Sensors: sensors}
}

// brokenMachines are not valid, and fit to what is the toy's in all else.
func brokenMachines() []api.Machine {
	l := make([]api.Machine, 6)
	for i := range l {
		l[i] = toy()
	}
	l[0].Name = ""
	l[1].Limits = nil
	l[2].Coils[0].Turns = 0
	l[3].Shells[0].Self = 0
	l[4].Sensors[3].Kind = 4
	l[5].Sensors[3].Error = -1
	return append(l, api.Machine{})
}

// brokenCurrents are not valid for the toy.
func brokenCurrents() map[string]api.Currents {
	l := map[string]api.Currents{"nothing": {}}
	change := func(what string, do func(c *api.Currents)) {
		c := lit()
		do(&c)
		l[what] = c
	}
	change("a coil too many", func(c *api.Currents) { c.Coils = append(c.Coils, 0) })
	change("no shell", func(c *api.Currents) { c.Shells = nil })
	change("a cell too few", func(c *api.Currents) { c.Plasma = c.Plasma[:3] })
	change("a cell too many", func(c *api.Currents) { c.Plasma = append(c.Plasma, 0) })
	change("a sum too large", func(c *api.Currents) { c.Plasma[0] = api.MaxAmp })
	for _, n := range append([]int{-api.MaxAmp - 1, api.MaxAmp + 1}, wild...) {
		change("a coil with "+strconv.Itoa(n), func(c *api.Currents) { c.Coils[0] = n })
		change("a shell with "+strconv.Itoa(n), func(c *api.Currents) { c.Shells[0] = n })
		change("a cell with "+strconv.Itoa(n), func(c *api.Currents) { c.Plasma[3] = n })
	}
	change("a cell below 0", func(c *api.Currents) { c.Plasma[1] = -1 })
	return l
}

// brokenReadings are not valid for the toy.
func brokenReadings() map[string][]api.Span {
	l := map[string][]api.Span{"nothing": nil, "one too few": anything(toy())[1:], "one too many": append(anything(toy()), sp(0, 0))}
	for _, a := range brokenSpans() {
		for k := range toy().Sensors {
			r := anything(toy())
			r[k] = a
			l["sensor "+strconv.Itoa(k)+" with "+strconv.Itoa(a.Lo)+".."+strconv.Itoa(a.Hi)] = r
		}
	}
	return l
}

func brokenSpans() []api.Span {
	l := []api.Span{sp(1, 0), sp(api.MaxValue, -api.MaxValue), sp(math.MaxInt, math.MinInt)}
	for _, n := range wild {
		l = append(l, sp(n, n), sp(min(n, 0), max(n, 0)))
	}
	return l
}

// outside are numbers that are not from 0 to the last one.
func outside(last int) []int {
	return append([]int{-1, last + 1}, wild...)
}

// some returns a random machine with currents.
func some(r *rand.Rand, sensors int) (api.Machine, api.Currents) {
	place := func() (int, int) { return r.Intn(31) - 15, r.Intn(31) - 15 }
	m := api.Machine{Name: "some", Limits: []api.Point{{}}}
	for i := range r.Intn(5) {
		c := api.Coil{Name: "c" + strconv.Itoa(i), Turns: 1 + r.Intn(100), MaxCurrent: 1, MaxStep: 1, MaxHeat: 1}
		c.R, c.Z = place()
		m.Coils = append(m.Coils, c)
	}
	for range r.Intn(5) {
		s := api.Shell{Self: 1, Loss: 1}
		s.R, s.Z = place()
		m.Shells = append(m.Shells, s)
	}
	m.Grid = api.Grid{R: r.Intn(21) - 10, Z: r.Intn(21) - 10, NR: 1 + r.Intn(4), NZ: 1 + r.Intn(4), Step: 1 + r.Intn(4)}
	for i := range sensors {
		s := api.Sensor{Name: "s" + strconv.Itoa(i), Kind: 1 + r.Intn(3), Error: upTo(r, 1e9)}
		s.R, s.Z = place()
		if r.Intn(3) == 0 { // within the grid, where responses are 0 and have either sign
			s.R, s.Z = m.Grid.R+r.Intn(3), m.Grid.Z+r.Intn(3)
		}
		m.Sensors = append(m.Sensors, s)
	}
	c := machine.Quiet(m)
	for _, list := range [][]int{c.Coils, c.Shells} {
		for i := range list {
			list[i] = upTo(r, api.MaxAmp) * (1 - 2*r.Intn(2))
		}
	}
	for i := range c.Plasma {
		c.Plasma[i] = r.Intn(api.MaxAmp / len(c.Plasma))
	}
	return m, c
}

// upTo returns a number from 0 to most: a small one as often as a large one.
func upTo(r *rand.Rand, most int) int {
	if r.Intn(3) == 0 {
		return r.Intn(most + 1)
	}
	return r.Intn(min(most, 1000) + 1)
}

// someFaults returns random faults of a machine with sensors.
func someFaults(r *rand.Rand, m api.Machine) []api.Fault {
	var l []api.Fault
	for range r.Intn(6) * min(1, len(m.Sensors)) {
		f := api.Fault{At: upTo(r, lastTick), Sensor: r.Intn(len(m.Sensors)), Kind: 1 + r.Intn(3)}
		if most := []int{0, api.MaxValue, 100000, 0}[f.Kind]; most > 0 {
			f.N = upTo(r, most) * (1 - 2*r.Intn(2))
		}
		l = append(l, f)
	}
	return l
}

// someReadings returns readings of a filament, which some sensors get wrong.
func someReadings(r *rand.Rand, m api.Machine, c api.Currents) []api.Span {
	for i := range c.Plasma {
		c.Plasma[i] = 0
	}
	c.Plasma[r.Intn(len(c.Plasma))] = upTo(r, api.MaxAmp)
	var l []api.Span
	for k := range m.Sensors {
		value, _ := machine.Exact(m, c, k)
		switch r.Intn(4) {
		case 0:
			value = -value
		case 1:
			value += upTo(r, 1e9) - upTo(r, 1e9)
		}
		l = append(l, sp(value-upTo(r, 1e9), value+upTo(r, 1e9)))
	}
	return l
}
