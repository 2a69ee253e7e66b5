package control_test

import (
	"math"
	"math/rand"
	"slices"
	"strconv"
	"testing"

	"shotdesk/api"
	"shotdesk/circuit"
	"shotdesk/machine"
)

const lastTick = 1000000000

// wild are numbers that are in no range.
var wild = []int{math.MinInt, -1 << 62, -api.MaxValue - 1, api.MaxValue + 1, 1 << 62, math.MaxInt}

func sp(lo, hi int) api.Span { return api.Span{Lo: lo, Hi: hi} }

// box returns the box with these ends, two for each cell.
func box(n ...int) []api.Span {
	var x []api.Span
	for pair := range slices.Chunk(n, 2) {
		x = append(x, sp(pair[0], pair[1]))
	}
	return x
}

// dots returns the box that holds just these numbers.
func dots(j ...int) []api.Span {
	var x []api.Span
	for _, n := range j {
		x = append(x, sp(n, n))
	}
	return x
}

// gives returns a check for a list that comes without an error.
func gives[T comparable](t *testing.T, call string, want ...T) func([]T, api.Errno) {
	t.Helper()
	return func(got []T, e api.Errno) {
		t.Helper()
		if e != api.OK || !slices.Equal(got, want) {
			t.Errorf("%s = %v, %d, not %v", call, got, e, want)
		}
	}
}

// is returns a check for a result that comes without an error.
func is[T comparable](t *testing.T, call string, want T) func(T, api.Errno) {
	t.Helper()
	return func(got T, e api.Errno) {
		t.Helper()
		if e != api.OK || got != want {
			t.Errorf("%s = %v, %d, not %v", call, got, e, want)
		}
	}
}

// fails returns a check for an error that comes alone.
func fails[T comparable](t *testing.T, call string, want api.Errno) func(T, api.Errno) {
	t.Helper()
	return func(got T, e api.Errno) {
		t.Helper()
		var zero T
		if e != want || got != zero {
			t.Errorf("%s = %v, %d, not %d", call, got, e, want)
		}
	}
}

// none returns a check for an error that comes without a list.
func none[T any](t *testing.T, call string, want api.Errno) func([]T, api.Errno) {
	t.Helper()
	return func(got []T, e api.Errno) {
		t.Helper()
		if e != want || len(got) > 0 {
			t.Errorf("%s = %v, %d, not %d", call, got, e, want)
		}
	}
}

// lets returns a check for an order.
func lets(t *testing.T, call string, share int, change ...int) func(api.Order, api.Errno) {
	t.Helper()
	return func(o api.Order, e api.Errno) {
		t.Helper()
		if e != api.OK || o.Share != share || !slices.Equal(o.Change, change) {
			t.Errorf("%s = %v, %d, not %d eighths: %v", call, o, e, share, change)
		}
	}
}

func same[T comparable](t *testing.T, call string, got, want T) {
	t.Helper()
	if got != want {
		t.Errorf("%s = %v, not %v", call, got, want)
	}
}

// lone is a machine with a coil of one turn at (0, 0), a cell at (3, 0), and nothing that breaks; its state has no currents. An ampere of the cell is a vertical field of 75,000 and no radial field at the coil: 40,000 amperes are a force of 3 for each ampere of the coil.
func lone() (api.Machine, api.State) {
	m := api.Machine{
		Name:   "lone",
		Coils:  []api.Coil{{Name: "a", Turns: 1, MaxCurrent: 2000, MaxStep: 1600, MaxHeat: 1000000000, Cool: 1000}},
		Limits: []api.Point{{R: 9}},
		Grid:   api.Grid{R: 3, NR: 1, NZ: 1, Step: 1},
	}
	s, _ := circuit.Begin(m)
	s.C.Plasma[0] = 40000
	return m, s
}

// withShell adds a shell with a current to a machine, in which a source at its place induces its whole change.
func withShell(m api.Machine, s api.State, r, z, current int) (api.Machine, api.State) {
	m.Shells = append(m.Shells, api.Shell{R: r, Z: z, Self: 250000, Loss: 1})
	s.C.Shells = append(s.C.Shells, current)
	return m, s
}

// loose is a safety that nothing breaks.
func loose() api.Safety { return api.Safety{Shell: api.MaxAmp, Force: api.MaxValue} }

// pair is a machine with a coil of 100 turns at (0, 0), another one at (0, 6), a shell at (0, 3), and the cells (3, 0) and (3, 4).
func pair() (api.Machine, api.Currents) {
	m := api.Machine{
		Name: "pair",
		Coils: []api.Coil{
			{Name: "a", Turns: 100, MaxCurrent: 5000, MaxStep: 1000, MaxHeat: 1000000000, Cool: 1000},
			{Name: "b", Z: 6, Turns: 1, MaxCurrent: 500, MaxStep: 80, MaxHeat: 100000, Cool: 100},
		},
		Shells: []api.Shell{{Z: 3, Self: 250000, Loss: 100}},
		Limits: []api.Point{{R: 9}},
		Grid:   api.Grid{R: 3, NR: 1, NZ: 2, Step: 4},
	}
	return m, machine.Quiet(m)
}

// seen returns a shape with this radius and height, all else 0.
func seen(radius, height api.Span) api.Shape { return api.Shape{Radius: radius, Height: height} }

// great is a machine in which everything is as many and as large as it may be, so that the forces on its first coil are as far from 0 as they may be; a place is that of all other coils, of the shells, and of the first cell.
func great(place api.Point) (api.Machine, api.Currents) {
	m := api.Machine{Name: "great", Grid: api.Grid{R: place.R, Z: place.Z, NR: 8, NZ: 8, Step: 1}}
	for i := range api.MaxCoils {
		coil := api.Coil{Name: "c" + strconv.Itoa(i), R: place.R, Z: place.Z, Turns: 100, MaxCurrent: api.MaxAmp, MaxStep: api.MaxAmp, MaxHeat: 1000000000000}
		if i == 0 {
			coil.R, coil.Z = 0, 0
		}
		m.Coils = append(m.Coils, coil)
	}
	for range api.MaxShells {
		m.Shells = append(m.Shells, api.Shell{R: place.R, Z: place.Z, Self: 1000000000, Loss: 1})
	}
	for i := range api.MaxPoints {
		m.Limits = append(m.Limits, api.Point{R: i})
	}
	for i := range api.MaxSensors {
		m.Sensors = append(m.Sensors, api.Sensor{Name: "s" + strconv.Itoa(i), Kind: api.SFlux})
	}
	c := machine.Quiet(m)
	for i := range c.Coils {
		c.Coils[i] = api.MaxAmp
	}
	for i := range c.Shells {
		c.Shells[i] = api.MaxAmp
	}
	return m, c
}

// some returns a random machine with up to side by side cells, and a state of it.
func some(r *rand.Rand, side int) (api.Machine, api.State) {
	m := api.Machine{Name: "some", Limits: []api.Point{{}}}
	place := func() (int, int) { return r.Intn(21) - 10, r.Intn(21) - 10 }
	for i := range r.Intn(4) {
		coil := api.Coil{Name: "c" + strconv.Itoa(i), Turns: 1 + r.Intn(100), MaxCurrent: 1 + upTo(r, 4000), MaxStep: 1 + upTo(r, 2000), MaxHeat: 1 + upTo(r, 30000), Cool: upTo(r, 1000)}
		coil.R, coil.Z = place()
		m.Coils = append(m.Coils, coil)
	}
	for range r.Intn(3) {
		shell := api.Shell{Self: 1 + upTo(r, 10000000), Loss: 1 + r.Intn(1000)}
		shell.R, shell.Z = place()
		m.Shells = append(m.Shells, shell)
	}
	m.Grid = api.Grid{NR: 1 + r.Intn(side), NZ: 1 + r.Intn(side), Step: 1 + r.Intn(5)}
	m.Grid.R, m.Grid.Z = place()
	return m, someState(r, m)
}

// upTo returns a number from 0 to most: a small one as often as a large one.
func upTo(r *rand.Rand, most int) int { return r.Intn(most>>r.Intn(4) + 1) }

func signed(r *rand.Rand, n int) int {
	if r.Intn(2) == 0 {
		return -n
	}
	return n
}

// someState returns a state in which now and then a coil is tripped, or beyond its MaxCurrent.
func someState(r *rand.Rand, m api.Machine) api.State {
	s := api.State{Tick: r.Intn(1000), C: machine.Quiet(m)}
	for i, coil := range m.Coils {
		s.C.Coils[i] = signed(r, upTo(r, coil.MaxCurrent))
		if r.Intn(10) == 0 {
			s.C.Coils[i] *= 2
		}
		s.Heat = append(s.Heat, upTo(r, coil.MaxHeat))
		s.Tripped = append(s.Tripped, r.Intn(12) == 0)
	}
	for i := range s.C.Shells {
		s.C.Shells[i] = signed(r, upTo(r, 20000))
	}
	for i := range s.C.Plasma {
		s.C.Plasma[i] = upTo(r, 40000)
	}
	return s
}

// someWish returns changes, now and then with one that is beyond its coil's MaxStep.
func someWish(r *rand.Rand, m api.Machine) []int {
	var l []int
	for _, coil := range m.Coils {
		n := signed(r, upTo(r, coil.MaxStep))
		if r.Intn(8) == 0 {
			n *= 1 << r.Intn(30)
		}
		l = append(l, n)
	}
	return l
}

// someBox returns a box around the cells' currents, at most so far from them.
func someBox(r *rand.Rand, s api.State, far int) []api.Span {
	var x []api.Span
	for _, n := range s.C.Plasma {
		x = append(x, sp(max(0, n-r.Intn(far+1)), n+r.Intn(far+1)))
	}
	return x
}

// tight returns a safety that a share of the wish may just keep or just break.
func tight(r *rand.Rand, m api.Machine, s api.State, wish []int, x []api.Span) api.Safety {
	n := r.Intn(9)
	var part []int
	for _, whole := range wish {
		part = append(part, whole*n/8)
	}
	after, _ := circuit.Step(m, s, api.Drive{Change: part, Plasma: s.C.Plasma})
	b := api.Safety{}
	for _, current := range after.C.Shells {
		b.Shell = max(b.Shell, current, -current)
	}
	for _, force := range modelForces(m, after.C, x) {
		for _, part := range force {
			b.Force = max(b.Force, part.Hi, -part.Lo)
		}
	}
	switch r.Intn(5) {
	case 0:
		b.Shell /= 2
	case 1:
		b.Force -= b.Force / (1 + r.Intn(6))
	case 2:
		b.Force = max(0, b.Force-1)
	case 3:
		b.Shell = max(0, b.Shell-1)
	}
	b.Shell = min(b.Shell, api.MaxAmp)
	return b
}

// held returns all whole numbers that a box holds.
func held(x []api.Span) [][]int {
	if len(x) == 0 {
		return [][]int{{}}
	}
	var list [][]int
	for _, rest := range held(x[1:]) {
		for n := x[0].Lo; n <= x[0].Hi; n++ {
			list = append(list, append([]int{n}, rest...))
		}
	}
	return list
}

// smaller returns a box that lies in another one.
func smaller(r *rand.Rand, x []api.Span) []api.Span {
	x = slices.Clone(x)
	for i, a := range x {
		if r.Intn(3) > 0 {
			x[i].Lo += r.Intn(a.Hi - a.Lo + 1)
			x[i].Hi -= r.Intn(a.Hi - x[i].Lo + 1)
		}
	}
	return x
}

// enough checks that each of these cases was seen at least so many times.
func enough(t *testing.T, cases map[string]int, least int, names ...string) {
	t.Helper()
	for _, what := range names {
		if cases[what] < least {
			t.Errorf("too few cases: %d %s", cases[what], what)
		}
	}
}
