package equil_test

import (
	"math"
	"math/rand"
	"slices"
	"strconv"
	"testing"

	"shotdesk/api"
	"shotdesk/machine"
)

// wild are numbers that are in no range.
var wild = []int{math.MinInt, -1 << 62, -api.MaxValue - 1, 1 << 62, math.MaxInt}

func sp(lo, hi int) api.Span { return api.Span{Lo: lo, Hi: hi} }

// box returns the box with these ends, two for each cell.
func box(n ...int) []api.Span {
	var x []api.Span
	for pair := range slices.Chunk(n, 2) {
		x = append(x, sp(pair[0], pair[1]))
	}
	return x
}

// dots returns the box that holds just these numbers.
func dots(j ...int) []api.Span {
	var x []api.Span
	for _, n := range j {
		x = append(x, sp(n, n))
	}
	return x
}

// gives returns a check for a list that comes without an error.
func gives[T comparable](t *testing.T, call string, want ...T) func([]T, api.Errno) {
	t.Helper()
	return func(got []T, e api.Errno) {
		t.Helper()
		if e != api.OK || !slices.Equal(got, want) {
			t.Errorf("%s = %v, %d, not %v", call, got, e, want)
		}
	}
}

// fails returns a check for an error that comes alone.
func fails[T comparable](t *testing.T, call string, want api.Errno) func([]T, api.Errno) {
	t.Helper()
	return func(got []T, e api.Errno) {
		t.Helper()
		if e != want || len(got) != 0 {
			t.Errorf("%s = %v, %d, not %d", call, got, e, want)
		}
	}
}

// is returns a check for a result that comes without an error.
func is[T comparable](t *testing.T, call string, want T) func(T, api.Errno) {
	t.Helper()
	return func(got T, e api.Errno) {
		t.Helper()
		if e != api.OK || got != want {
			t.Errorf("%s = %v, %d, not %v", call, got, e, want)
		}
	}
}

func same[T comparable](t *testing.T, call string, got, want T) {
	t.Helper()
	if got != want {
		t.Errorf("%s = %v, not %v", call, got, want)
	}
}

// single is a machine with one cell. A current of 1 there gives it the flux 250,000, and 200,000 to each limiter point. A current of 1 in the shell gives 34,482 to the cell, 50,000 to the first limiter point, and 25,000 to the second.
func single(shell int) (api.Machine, api.Currents) {
	m := api.Machine{
		Name:   "single",
		Shells: []api.Shell{{R: 5, Self: 1, Loss: 1}},
		Limits: []api.Point{{R: 1}, {R: -1}},
		Grid:   api.Grid{NR: 1, NZ: 1, Step: 1},
	}
	return m, api.Currents{Shells: []int{shell}, Plasma: []int{0}}
}

// pair is a machine with cells at (0, 0) and (4, 0), and limiter points at (-4, 0) and (8, 0). The influence of a cell is 250,000 on itself, 50,000 on the other cell and on its limiter point, and 14,705 on the other limiter point.
func pair() (api.Machine, api.Currents) {
	m := api.Machine{
		Name:   "pair",
		Coils:  []api.Coil{{Name: "a", R: 2, Turns: 2, MaxCurrent: 1, MaxStep: 1, MaxHeat: 1}},
		Shells: []api.Shell{{R: -8, Self: 1, Loss: 1}},
		Limits: []api.Point{{R: -4}, {R: 8}},
		Grid:   api.Grid{NR: 2, NZ: 1, Step: 4},
	}
	return m, api.Currents{Coils: []int{0}, Shells: []int{0}, Plasma: []int{7, 9}}
}

// row is a machine with cells at (0, 0), (4, 0) and (8, 0), and a limiter point at (2, 0).
func row() (api.Machine, api.Currents) {
	m := api.Machine{Name: "row", Limits: []api.Point{{R: 2}}, Grid: api.Grid{NR: 3, NZ: 1, Step: 4}}
	return m, machine.Quiet(m)
}

// great is a machine in which everything is as many and as large as it may be, so that the fluxes are as far from 0 as they may be.
func great() (api.Machine, api.Currents) {
	m := api.Machine{Name: "great", Grid: api.Grid{NR: 8, NZ: 8, Step: 1}}
	for i := range api.MaxCoils {
		m.Coils = append(m.Coils, api.Coil{Name: "c" + strconv.Itoa(i), R: 3, Z: 3, Turns: 100, MaxCurrent: 1, MaxStep: 1, MaxHeat: 1})
	}
	for i := range api.MaxShells {
		m.Shells = append(m.Shells, api.Shell{R: 4, Z: 3, Self: 1, Loss: 1})
		m.Limits = append(m.Limits, api.Point{R: -60 + 8*i, Z: 60 - i})
	}
	for i := range api.MaxSensors {
		m.Sensors = append(m.Sensors, api.Sensor{Name: "s" + strconv.Itoa(i), Kind: api.SFlux})
	}
	return m, full(m, api.MaxAmp)
}

// full returns currents that are all n in the coils and shells.
func full(m api.Machine, n int) api.Currents {
	c := machine.Quiet(m)
	for _, list := range [][]int{c.Coils, c.Shells} {
		for i := range list {
			list[i] = n
		}
	}
	return c
}

// some returns a random machine with up to side by side cells, currents, and a total up to most.
func some(r *rand.Rand, side, most int) (api.Machine, api.Currents, int) {
	m := api.Machine{Name: "some"}
	m.Grid = api.Grid{R: r.Intn(11) - 10, Z: r.Intn(11) - 10, NR: 1 + r.Intn(side), NZ: 1 + r.Intn(side), Step: 1 + r.Intn(10)}
	place := func(far int) (int, int) {
		width, height := m.Grid.NR*m.Grid.Step, m.Grid.NZ*m.Grid.Step
		return max(-60, min(60, m.Grid.R-far+r.Intn(width+2*far))), max(-60, min(60, m.Grid.Z-far+r.Intn(height+2*far)))
	}
	for range 1 + r.Intn(4) {
		var p api.Point
		if p.R, p.Z = place(10); !slices.Contains(m.Limits, p) {
			m.Limits = append(m.Limits, p)
		}
	}
	for i := range r.Intn(4) {
		coil := api.Coil{Name: "c" + strconv.Itoa(i), Turns: 1 + r.Intn(3), MaxCurrent: 1, MaxStep: 1, MaxHeat: 1}
		coil.R, coil.Z = place(30)
		m.Coils = append(m.Coils, coil)
	}
	for range r.Intn(3) {
		shell := api.Shell{Self: 1, Loss: 1}
		shell.R, shell.Z = place(20)
		m.Shells = append(m.Shells, shell)
	}
	total := 1 + r.Intn(min(most, []int{10, 100, 1000, 10000, 100000, 1000000}[r.Intn(6)]))
	c := full(m, 0)
	for _, list := range [][]int{c.Coils, c.Shells} {
		for i := range list {
			list[i] = r.Intn(2*total+1) - total
		}
	}
	c.Plasma[r.Intn(len(c.Plasma))] = r.Intn(total)
	return m, c, total
}

// someNumbers returns numbers for cells, now and then with the sum total.
func someNumbers(r *rand.Rand, cells, total int) []int {
	j := make([]int, cells)
	for i := range j {
		j[i] = r.Intn(total + 1)
	}
	if r.Intn(2) == 0 {
		left := total
		for i := range j {
			j[i] = min(j[i], left)
			left -= j[i]
		}
		j[r.Intn(cells)] += left
	}
	return j
}

// someBox returns a box around numbers that is valid for a total.
func someBox(r *rand.Rand, j []int, total, width int) []api.Span {
	var x []api.Span
	for _, n := range j {
		x = append(x, sp(max(0, n-r.Intn(width+1)), min(total, n+r.Intn(width+1))))
	}
	return x
}

// held returns all whole numbers that a box holds.
func held(x []api.Span) [][]int {
	if len(x) == 0 {
		return [][]int{{}}
	}
	var list [][]int
	for _, rest := range held(x[1:]) {
		for n := x[0].Lo; n <= x[0].Hi; n++ {
			list = append(list, append([]int{n}, rest...))
		}
	}
	return list
}

// enough checks that each of these cases was seen at least so many times.
func enough(t *testing.T, seen map[string]int, least int, cases ...string) {
	t.Helper()
	for _, what := range cases {
		if seen[what] < least {
			t.Errorf("too few cases: %d %s", seen[what], what)
		}
	}
}
