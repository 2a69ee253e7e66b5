package machine_test

import (
	"math"
	"math/rand"
	"strconv"

	"shotdesk/api"
	"shotdesk/machine"
)

// wild are numbers that no machine has.
var wild = []int{math.MinInt, math.MinInt + 1, -1 << 62, -api.MaxValue - 1, api.MaxValue + 1, 1 << 62, math.MaxInt - 1, math.MaxInt}

func pt(r, z int) api.Point { return api.Point{R: r, Z: z} }

// small is a machine with two of everything; no two of its numbers are the same by chance where a mix-up could hide.
func small() api.Machine {
	return api.Machine{
		Name: "tok_1",
		Coils: []api.Coil{
			{Name: "up", R: 3, Z: 9, Turns: 4, MaxCurrent: 5000, MaxStep: 700, MaxHeat: 60000, Cool: 80},
			{Name: "down", R: 5, Z: -8, Turns: 6, MaxCurrent: 4000, MaxStep: 900, MaxHeat: 50000, Cool: 70},
		},
		Shells:  []api.Shell{{R: 1, Z: 2, Self: 300, Loss: 40}, {R: 17, Z: -3, Self: 500, Loss: 60}},
		Limits:  []api.Point{pt(8, 1), pt(18, -1)},
		Grid:    api.Grid{R: 10, Z: -2, NR: 3, NZ: 4, Step: 2},
		Sensors: []api.Sensor{{Name: "a", Kind: api.SFlux, R: 7, Z: 5, Error: 10}, {Name: "b2", Kind: api.SVertical, R: 20, Z: -6}},
	}
}

const smallText = `machine tok_1
coil up 3 9 4 5000 700 60000 80
coil down 5 -8 6 4000 900 50000 70
shell 1 2 300 40
shell 17 -3 500 60
limit 8 1
limit 18 -1
grid 10 -2 3 4 2
sensor a flux 7 5 10
sensor b2 vertical 20 -6 0
`

// bare is a machine of what a machine must have.
func bare() api.Machine {
	return api.Machine{Name: "m", Limits: []api.Point{{}}, Grid: api.Grid{NR: 1, NZ: 1, Step: 1}}
}

// most is a machine in which all is as much as it may be.
func most() api.Machine {
	m := api.Machine{Name: "abcdefghijklmno9", Grid: api.Grid{R: -10, Z: -10, NR: api.MaxSide, NZ: api.MaxSide, Step: 10}}
	for i := range api.MaxCoils {
		m.Coils = append(m.Coils, api.Coil{Name: "coil_name_no_" + strconv.Itoa(100+i), R: 60, Z: 60 - i, Turns: 100, MaxCurrent: api.MaxAmp, MaxStep: api.MaxAmp, MaxHeat: 1e12, Cool: 1e9})
	}
	for range api.MaxShells {
		m.Shells = append(m.Shells, api.Shell{R: 60, Z: 60, Self: 1e9, Loss: 1000})
	}
	for i := range api.MaxPoints {
		m.Limits = append(m.Limits, pt(-60, i-60))
	}
	for i := range api.MaxSensors {
		m.Sensors = append(m.Sensors, api.Sensor{Name: "sensor_name__" + strconv.Itoa(100+i), Kind: 1 + i%3, R: 60, Z: -60, Error: 1e9})
	}
	return m
}

// least is a machine in which all is as little as it may be.
func least() api.Machine {
	return api.Machine{
		Name:    "z",
		Coils:   []api.Coil{{Name: "a", R: -60, Z: -60, Turns: 1, MaxCurrent: 1, MaxStep: 1, MaxHeat: 1}},
		Shells:  []api.Shell{{R: -60, Z: -60, Self: 1, Loss: 1}},
		Limits:  []api.Point{pt(-60, -60)},
		Grid:    api.Grid{R: -60, Z: -60, NR: 1, NZ: 1, Step: 1},
		Sensors: []api.Sensor{{Name: "a", Kind: api.SFlux, R: -60, Z: -60}},
	}
}

// with returns the small machine after a change.
func with(change func(m *api.Machine)) api.Machine {
	m := small()
	change(&m)
	return m
}

// A flaw is a machine that is not valid, and why.
type flaw struct {
	what string
	m    api.Machine
	e    api.Errno
}

func flawed(what string, e api.Errno, change func(m *api.Machine)) flaw {
	return flaw{what, with(change), e}
}

// outside returns flaws in which a number is not from lo to hi.
func outside(what string, lo, hi int, field func(m *api.Machine) *int) []flaw {
	var l []flaw
	for _, n := range append([]int{lo - 1, hi + 1}, wild...) {
		l = append(l, flawed(what+" "+strconv.Itoa(n), api.ErrRange, func(m *api.Machine) { *field(m) = n }))
	}
	return l
}

// flaws are machines that are not valid, for each reason.
func flaws() []flaw {
	l := []flaw{
		{"nothing", api.Machine{}, api.ErrInvalid},
		flawed("too many coils", api.ErrLimit, func(m *api.Machine) { m.Coils = append(most().Coils, m.Coils[0]) }),
		flawed("too many shells", api.ErrLimit, func(m *api.Machine) { m.Shells = append(most().Shells, m.Shells[0]) }),
		flawed("no limiter", api.ErrNone, func(m *api.Machine) { m.Limits = nil }),
		flawed("too many limiter points", api.ErrLimit, func(m *api.Machine) { m.Limits = append(most().Limits, m.Limits[0]) }),
		flawed("too many sensors", api.ErrLimit, func(m *api.Machine) { m.Sensors = append(most().Sensors, m.Sensors[0]) }),
		flawed("equal coils", api.ErrDuplicate, func(m *api.Machine) { m.Coils[1].Name = m.Coils[0].Name }),
		flawed("equal limiter points", api.ErrDuplicate, func(m *api.Machine) { m.Limits[1] = m.Limits[0] }),
		flawed("equal sensors", api.ErrDuplicate, func(m *api.Machine) { m.Sensors[1].Name = m.Sensors[0].Name }),
	}
	for _, name := range badNames() {
		l = append(l,
			flawed("name "+name, api.ErrInvalid, func(m *api.Machine) { m.Name = name }),
			flawed("coil's name "+name, api.ErrInvalid, func(m *api.Machine) { m.Coils[1].Name = name }),
			flawed("sensor's name "+name, api.ErrInvalid, func(m *api.Machine) { m.Sensors[1].Name = name }))
	}
	l = append(l, outside("coil's R", -60, 60, func(m *api.Machine) *int { return &m.Coils[1].R })...)
	l = append(l, outside("coil's Z", -60, 60, func(m *api.Machine) *int { return &m.Coils[1].Z })...)
	l = append(l, outside("Turns", 1, 100, func(m *api.Machine) *int { return &m.Coils[1].Turns })...)
	l = append(l, outside("MaxCurrent", 1, 1000000, func(m *api.Machine) *int { return &m.Coils[1].MaxCurrent })...)
	l = append(l, outside("MaxStep", 1, 1000000, func(m *api.Machine) *int { return &m.Coils[1].MaxStep })...)
	l = append(l, outside("MaxHeat", 1, 1e12, func(m *api.Machine) *int { return &m.Coils[1].MaxHeat })...)
	l = append(l, outside("Cool", 0, 1e9, func(m *api.Machine) *int { return &m.Coils[1].Cool })...)
	l = append(l, outside("shell's R", -60, 60, func(m *api.Machine) *int { return &m.Shells[1].R })...)
	l = append(l, outside("shell's Z", -60, 60, func(m *api.Machine) *int { return &m.Shells[1].Z })...)
	l = append(l, outside("Self", 1, 1e9, func(m *api.Machine) *int { return &m.Shells[1].Self })...)
	l = append(l, outside("Loss", 1, 1000, func(m *api.Machine) *int { return &m.Shells[1].Loss })...)
	l = append(l, outside("limit's R", -60, 60, func(m *api.Machine) *int { return &m.Limits[1].R })...)
	l = append(l, outside("limit's Z", -60, 60, func(m *api.Machine) *int { return &m.Limits[1].Z })...)
	l = append(l, outside("grid's R", -60, 56, func(m *api.Machine) *int { return &m.Grid.R })...)
	l = append(l, outside("grid's Z", -60, 54, func(m *api.Machine) *int { return &m.Grid.Z })...)
	l = append(l, outside("NR", 1, 8, func(m *api.Machine) *int { return &m.Grid.NR })...)
	l = append(l, outside("NZ", 1, 8, func(m *api.Machine) *int { return &m.Grid.NZ })...)
	l = append(l, outside("Step", 1, 10, func(m *api.Machine) *int { return &m.Grid.Step })...)
	l = append(l, outside("Kind", 1, 3, func(m *api.Machine) *int { return &m.Sensors[1].Kind })...)
	l = append(l, outside("sensor's R", -60, 60, func(m *api.Machine) *int { return &m.Sensors[1].R })...)
	l = append(l, outside("sensor's Z", -60, 60, func(m *api.Machine) *int { return &m.Sensors[1].Z })...)
	l = append(l, outside("Error", 0, 1e9, func(m *api.Machine) *int { return &m.Sensors[1].Error })...)
	return l
}

func badNames() []string {
	return []string{
		"", "A", "1", "_", "1a", "_a", "Ab", "aB", "a-b", "a b", " a", "a ", "a\n", "a\x00", "a.", "a/", "a:", "a`", "a{", "`a", "{a", "a@", "a[",
		"abcdefghijklmnopq", "\u00e4", "a\u00e4", "a\xff",
	}
}

// some returns a random machine with currents.
func some(r *rand.Rand) (api.Machine, api.Currents) {
	place := func() (int, int) { return r.Intn(121) - 60, r.Intn(121) - 60 }
	m := api.Machine{Name: "some"}
	for i := range r.Intn(api.MaxCoils + 1) {
		c := api.Coil{Name: "c" + strconv.Itoa(i), Turns: 1 + r.Intn(100), MaxCurrent: 1 + r.Intn(api.MaxAmp), MaxStep: 1 + r.Intn(api.MaxAmp), MaxHeat: 1 + r.Intn(1e12), Cool: r.Intn(1e9 + 1)}
		c.R, c.Z = place()
		m.Coils = append(m.Coils, c)
	}
	for range r.Intn(api.MaxShells + 1) {
		s := api.Shell{Self: 1 + r.Intn(1e9), Loss: 1 + r.Intn(1000)}
		s.R, s.Z = place()
		m.Shells = append(m.Shells, s)
	}
	for i := range 1 + r.Intn(api.MaxPoints) {
		m.Limits = append(m.Limits, pt(r.Intn(121)-60, i*7-60))
	}
	g := api.Grid{NR: 1 + r.Intn(8), NZ: 1 + r.Intn(8), Step: 1 + r.Intn(10)}
	g.R = -60 + r.Intn(121-(g.NR-1)*g.Step)
	g.Z = -60 + r.Intn(121-(g.NZ-1)*g.Step)
	m.Grid = g
	for i := range r.Intn(api.MaxSensors + 1) {
		s := api.Sensor{Name: "s" + strconv.Itoa(i), Kind: 1 + r.Intn(3), Error: r.Intn(1e9 + 1)}
		s.R, s.Z = place()
		m.Sensors = append(m.Sensors, s)
	}
	return m, someCurrents(r, m, api.MaxAmp)
}

// someCurrents returns random currents of a machine with a total of up to most amperes, and those of coils and shells as far.
func someCurrents(r *rand.Rand, m api.Machine, most int) api.Currents {
	c := machine.Quiet(m)
	for _, list := range [][]int{c.Coils, c.Shells} {
		for i := range list {
			list[i] = r.Intn(2*most+1) - most
		}
	}
	left := most
	for i := range c.Plasma {
		c.Plasma[i] = r.Intn(left + 1)
		left -= c.Plasma[i]
	}
	r.Shuffle(len(c.Plasma), func(i, j int) { c.Plasma[i], c.Plasma[j] = c.Plasma[j], c.Plasma[i] })
	return c
}

// filled returns the small machine's currents, all of them different.
func filled() api.Currents {
	return api.Currents{
		Coils:  []int{1000, -2000},
		Shells: []int{30, -50},
		Plasma: []int{0, 1, 2, 3, 5, 7, 11, 13, 17, 19, 23, 29},
	}
}

// wrongCurrents are currents that are not valid for the small machine.
func wrongCurrents() map[string]api.Currents {
	l := map[string]api.Currents{"nothing": {}}
	change := func(what string, do func(c *api.Currents)) {
		c := filled()
		do(&c)
		l[what] = c
	}
	change("a coil too few", func(c *api.Currents) { c.Coils = c.Coils[:1] })
	change("a coil too many", func(c *api.Currents) { c.Coils = append(c.Coils, 0) })
	change("a shell too few", func(c *api.Currents) { c.Shells = c.Shells[:1] })
	change("a shell too many", func(c *api.Currents) { c.Shells = append(c.Shells, 0) })
	change("a cell too few", func(c *api.Currents) { c.Plasma = c.Plasma[:11] })
	change("a cell too many", func(c *api.Currents) { c.Plasma = append(c.Plasma, 0) })
	change("a sum too large", func(c *api.Currents) { c.Plasma[0] = api.MaxAmp - 129 })
	change("a sum far too large", func(c *api.Currents) { c.Plasma[0], c.Plasma[1] = api.MaxAmp, api.MaxAmp })
	for _, n := range append([]int{-api.MaxAmp - 1, api.MaxAmp + 1}, wild...) {
		text := strconv.Itoa(n)
		change("coil "+text, func(c *api.Currents) { c.Coils[1] = n })
		change("shell "+text, func(c *api.Currents) { c.Shells[1] = n })
		change("cell "+text, func(c *api.Currents) { c.Plasma[11] = n })
	}
	change("a cell below 0", func(c *api.Currents) { c.Plasma[11] = -1 })
	change("cells that wrap around", func(c *api.Currents) { c.Plasma[0], c.Plasma[1] = math.MaxInt, math.MinInt })
	return l
}
