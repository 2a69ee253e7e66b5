package shape_test

import (
	"math"
	"math/rand"
	"slices"
	"strconv"
	"strings"
	"testing"

	"shotdesk/api"
	"shotdesk/machine"
)

// wild are numbers that are in no range.
var wild = []int{math.MinInt, -1 << 62, -api.MaxValue - 1, api.MaxValue + 1, 1 << 62, math.MaxInt}

func sp(lo, hi int) api.Span { return api.Span{Lo: lo, Hi: hi} }

// box returns the box with these ends, two for each cell.
func box(n ...int) []api.Span {
	var x []api.Span
	for pair := range slices.Chunk(n, 2) {
		x = append(x, sp(pair[0], pair[1]))
	}
	return x
}

// dots returns the box that holds just these numbers.
func dots(j ...int) []api.Span {
	var x []api.Span
	for _, n := range j {
		x = append(x, sp(n, n))
	}
	return x
}

// gives returns a check for a list that comes without an error.
func gives[T comparable](t *testing.T, call string, want ...T) func([]T, api.Errno) {
	t.Helper()
	return func(got []T, e api.Errno) {
		t.Helper()
		if e != api.OK || !slices.Equal(got, want) {
			t.Errorf("%s = %v, %d, not %v", call, got, e, want)
		}
	}
}

// is returns a check for a result that comes without an error.
func is[T comparable](t *testing.T, call string, want T) func(T, api.Errno) {
	t.Helper()
	return func(got T, e api.Errno) {
		t.Helper()
		if e != api.OK || got != want {
			t.Errorf("%s = %v, %d, not %v", call, got, e, want)
		}
	}
}

// none returns a check for an error that comes alone.
func none[T comparable](t *testing.T, call string, want api.Errno) func(T, api.Errno) {
	t.Helper()
	return func(got T, e api.Errno) {
		t.Helper()
		var zero T
		if e != want || got != zero {
			t.Errorf("%s = %v, %d, not %d", call, got, e, want)
		}
	}
}

func same[T comparable](t *testing.T, call string, got, want T) {
	t.Helper()
	if got != want {
		t.Errorf("%s = %v, not %v", call, got, want)
	}
}

// mate is a machine with some cells and limiter points alone.
func mate(grid api.Grid, limits ...api.Point) (api.Machine, api.Currents) {
	m := api.Machine{Name: "mate", Limits: limits, Grid: grid}
	return m, machine.Quiet(m)
}

// with adds a coil and its current, or a shell and its current if there are no turns.
func with(m api.Machine, c api.Currents, r, z, turns, current int) (api.Machine, api.Currents) {
	if turns == 0 {
		m.Shells = append(m.Shells, api.Shell{R: r, Z: z, Self: 1, Loss: 1})
		c.Shells = append(c.Shells, current)
		return m, c
	}
	name := "c" + strconv.Itoa(len(m.Coils))
	m.Coils = append(m.Coils, api.Coil{Name: name, R: r, Z: z, Turns: turns, MaxCurrent: 1, MaxStep: 1, MaxHeat: 1})
	c.Coils = append(c.Coils, current)
	return m, c
}

// two is the chapter's machine of two cells at R = 0 and R = 2.
func two() (api.Machine, api.Currents) {
	return mate(api.Grid{NR: 2, NZ: 1, Step: 2}, api.Point{R: -2}, api.Point{R: 4})
}

// row has cells at (0, 0), (4, 0) and (8, 0), and a limiter point at (2, 0). The influence of a cell is 250,000 on itself, 50,000 and 14,705 on those beside it and behind that, and 125,000, 125,000 and 25,000 on the limiter point.
func row() (api.Machine, api.Currents) {
	return mate(api.Grid{NR: 3, NZ: 1, Step: 4}, api.Point{R: 2})
}

// sketch is a machine in which the sides of cells can be drawn: the limiter point has a flux of 1,000,000 from a shell, and all else is so far from each other that a cell's own current decides.
func sketch(nr, nz int) (api.Machine, api.Currents) {
	m, c := mate(api.Grid{R: 10, Z: -12, NR: nr, NZ: nz, Step: 10}, api.Point{R: -40, Z: 3})
	return with(m, c, -40, 3, 0, 4)
}

// drawn returns the box of a sketch whose picture this is.
func drawn(picture string) []api.Span {
	rows := strings.Fields(picture)
	slices.Reverse(rows)
	var x []api.Span
	for _, sign := range strings.Join(rows, "") {
		x = append(x, map[rune]api.Span{'#': sp(6, 7), '.': sp(0, 1), '?': sp(1, 7)}[sign])
	}
	return x
}

// great is a machine in which everything is as many and as large as it may be, so that fluxes and fields are as far from 0 as they may be.
func great() (api.Machine, api.Currents) {
	limits := make([]api.Point, api.MaxPoints)
	for i := range limits {
		limits[i] = api.Point{R: 3 + 3*i, Z: 3 - i}
	}
	m, c := mate(api.Grid{NR: 8, NZ: 8, Step: 1}, limits...)
	for range api.MaxCoils {
		m, c = with(m, c, 3, 3, 100, api.MaxAmp)
	}
	for range api.MaxShells {
		m, c = with(m, c, 3, 3, 0, api.MaxAmp)
	}
	for i := range api.MaxSensors {
		m.Sensors = append(m.Sensors, api.Sensor{Name: "s" + strconv.Itoa(i), Kind: api.SFlux})
	}
	return m, c
}

// some returns a random machine with up to side by side cells, currents, and a total up to most.
func some(r *rand.Rand, side, most int) (api.Machine, api.Currents, int) {
	grid := api.Grid{R: r.Intn(11) - 10, Z: r.Intn(11) - 10, NR: 1 + r.Intn(side), NZ: 1 + r.Intn(side), Step: 1 + r.Intn(10)}
	place := func(far int) api.Point {
		width, height := grid.NR*grid.Step, grid.NZ*grid.Step
		return api.Point{R: max(-60, min(60, grid.R-far+r.Intn(width+2*far))), Z: max(-60, min(60, grid.Z-far+r.Intn(height+2*far)))}
	}
	limits := []api.Point{place(10)}
	for range r.Intn(4) {
		if p := place(10); !slices.Contains(limits, p) {
			limits = append(limits, p)
		}
	}
	m, c := mate(grid, limits...)
	total := 1 + r.Intn(min(most, []int{10, 100, 1000, 10000, 100000, 1000000}[r.Intn(6)]))
	for range r.Intn(4) {
		p := place(30)
		m, c = with(m, c, p.R, p.Z, r.Intn(4), r.Intn(2*total+1)-total)
	}
	c.Plasma[r.Intn(len(c.Plasma))] = r.Intn(total)
	return m, c, total
}

// someNumbers returns numbers for cells, mostly with the sum total.
func someNumbers(r *rand.Rand, cells, total int) []int {
	j := make([]int, cells)
	left := total
	for _, cell := range r.Perm(cells) {
		j[cell] = r.Intn(left + 1)
		left -= j[cell]
	}
	if r.Intn(8) > 0 {
		j[r.Intn(cells)] += left
	}
	return j
}

// someBox returns a box around some numbers, valid for a total, at most so far from them.
func someBox(r *rand.Rand, cells, total, far int) []api.Span {
	var x []api.Span
	for _, n := range someNumbers(r, cells, total) {
		x = append(x, sp(max(0, n-r.Intn(far+1)), min(total, n+r.Intn(far+1))))
	}
	return x
}

// held returns all whole numbers that a box holds.
func held(x []api.Span) [][]int {
	if len(x) == 0 {
		return [][]int{{}}
	}
	var list [][]int
	for _, rest := range held(x[1:]) {
		for n := x[0].Lo; n <= x[0].Hi; n++ {
			list = append(list, append([]int{n}, rest...))
		}
	}
	return list
}

// distributions returns those of a box.
func distributions(total int, x []api.Span) [][]int {
	return slices.DeleteFunc(held(x), func(j []int) bool { return sum(j) != total })
}

func sum(j []int) int {
	n := 0
	for _, x := range j {
		n += x
	}
	return n
}

// lies reports whether a lies in b.
func lies(a, b api.Span) bool { return b.Lo <= a.Lo && a.Lo <= a.Hi && a.Hi <= b.Hi }

func negative(a api.Span) api.Span { return sp(-a.Hi, -a.Lo) }

// enough checks that each of these cases was seen at least so many times.
func enough(t *testing.T, seen map[string]int, least int, cases ...string) {
	t.Helper()
	for _, what := range cases {
		if seen[what] < least {
			t.Errorf("too few cases: %d %s", seen[what], what)
		}
	}
}
