package circuit_test

import (
	"math"
	"math/rand"
	"strconv"

	"shotdesk/api"
	"shotdesk/machine"
)

const lastTick = 1000000000

// wild are numbers that no state and no drive has.
var wild = []int{math.MinInt, math.MinInt + 1, -1 << 62, -api.MaxValue - 1, api.MaxValue + 1, 1 << 62, math.MaxInt - 1, math.MaxInt}

// toy is a machine with two coils and two shells; no two of its numbers are the same by chance where a mix-up could hide.
func toy() api.Machine {
	return api.Machine{
		Name: "toy",
		Coils: []api.Coil{
			{Name: "oh", R: 0, Z: 0, Turns: 2, MaxCurrent: 1000, MaxStep: 100, MaxHeat: 5000, Cool: 50},
			{Name: "up", R: 10, Z: 8, Turns: 3, MaxCurrent: 800, MaxStep: 60, MaxHeat: 3001, Cool: 40},
		},
		Shells: []api.Shell{{R: 3, Z: 4, Self: 1000, Loss: 100}, {R: -2, Z: 5, Self: 700, Loss: 37}},
		Limits: []api.Point{{R: 8, Z: 0}},
		Grid:   api.Grid{R: 10, Z: -2, NR: 3, NZ: 2, Step: 2},
	}
}

// busy is a state of the toy in which nothing is 0 but a cell.
func busy() api.State {
	return api.State{
		Tick:    7,
		C:       api.Currents{Coils: []int{200, -300}, Shells: []int{25, -60}, Plasma: []int{0, 1, 2, 30, 40, 50}},
		Heat:    []int{1000, 2000},
		Tripped: []bool{false, true},
	}
}

func push() api.Drive {
	return api.Drive{Change: []int{30, -20}, Plasma: []int{6, 5, 4, 33, 22, 11}}
}

// bare is a machine of what a machine must have, with its only state but for the cell and the tick.
func bare() (api.Machine, api.State) {
	m := api.Machine{Name: "m", Limits: []api.Point{{}}, Grid: api.Grid{NR: 1, NZ: 1, Step: 1}}
	return m, api.State{C: api.Currents{Plasma: []int{5}}}
}

// lone is a machine with one coil, far from all else, and a state of it with a current and a heat.
func lone(c api.Coil, current, heat int) (api.Machine, api.State) {
	m, s := bare()
	c.Name, c.Turns = "c", 1
	c.MaxCurrent, c.MaxStep = max(c.MaxCurrent, 1), max(c.MaxStep, 1)
	m.Coils = []api.Coil{c}
	s.C.Coils, s.Heat, s.Tripped = []int{current}, []int{heat}, []bool{false}
	return m, s
}

// still is a drive that asks for nothing.
func still(s api.State) api.Drive {
	return api.Drive{Change: make([]int, len(s.C.Coils)), Plasma: s.C.Plasma}
}

// brokenMachines are not valid, and fit to the toy's states in all else.
func brokenMachines() []api.Machine {
	l := make([]api.Machine, 5)
	for i := range l {
		l[i] = toy()
	}
	l[0].Name = ""
	l[1].Limits = nil
	l[2].Coils[1].Turns = 0
	l[3].Shells[0].Self = 0
	l[4].Sensors = []api.Sensor{{Name: "a"}}
	return l
}

// brokenStates are not valid for the toy.
func brokenStates() map[string]api.State {
	l := map[string]api.State{"nothing": {}}
	change := func(what string, do func(s *api.State)) {
		s := busy()
		do(&s)
		l[what] = s
	}
	change("a coil too few", func(s *api.State) { s.C.Coils = s.C.Coils[:1] })
	change("a coil too many", func(s *api.State) { s.C.Coils = append(s.C.Coils, 0) })
	change("a shell too few", func(s *api.State) { s.C.Shells = s.C.Shells[:1] })
	change("a cell too few", func(s *api.State) { s.C.Plasma = s.C.Plasma[:5] })
	change("a sum too large", func(s *api.State) { s.C.Plasma[0] = api.MaxAmp - 122 })
	change("a heat too few", func(s *api.State) { s.Heat = s.Heat[:1] })
	change("a heat too many", func(s *api.State) { s.Heat = append(s.Heat, 0) })
	change("no heats", func(s *api.State) { s.Heat = nil })
	change("a trip too few", func(s *api.State) { s.Tripped = s.Tripped[:1] })
	change("a trip too many", func(s *api.State) { s.Tripped = append(s.Tripped, false) })
	change("no trips", func(s *api.State) { s.Tripped = nil })
	for _, n := range wild {
		change("a heat "+strconv.Itoa(n), func(s *api.State) { s.Heat[1] = n })
	}
	change("a heat -1", func(s *api.State) { s.Heat[0] = -1 })
	for _, n := range append([]int{-1, lastTick + 1}, wild...) {
		change("the tick "+strconv.Itoa(n), func(s *api.State) { s.Tick = n })
	}
	for _, n := range append([]int{-api.MaxAmp - 1, api.MaxAmp + 1}, wild...) {
		change("a coil with "+strconv.Itoa(n), func(s *api.State) { s.C.Coils[1] = n })
		change("a shell with "+strconv.Itoa(n), func(s *api.State) { s.C.Shells[1] = n })
		change("a cell with "+strconv.Itoa(n), func(s *api.State) { s.C.Plasma[5] = n })
	}
	return l
}

// brokenChanges are no changes for the toy's coils.
func brokenChanges() [][]int {
	l := [][]int{nil, {1}, {1, 2, 3}}
	for _, n := range wild {
		l = append(l, []int{n, 0}, []int{0, n})
	}
	return l
}

// brokenCells are no currents of the toy's cells.
func brokenCells() [][]int {
	return [][]int{
		nil, {1, 2, 3, 4, 5}, {1, 2, 3, 4, 5, 6, 7}, {0, 0, 0, 0, 0, -1}, {api.MaxAmp + 1, 0, 0, 0, 0, 0},
		{api.MaxAmp, 1, 0, 0, 0, 0}, {math.MaxInt, math.MaxInt, 2, 0, 0, 0}, {math.MaxInt, math.MinInt, 0, 0, 0, 0},
	}
}

// some returns a random machine in which coils trip and cool down again.
func some(r *rand.Rand) api.Machine {
	place := func() (int, int) { return r.Intn(121) - 60, r.Intn(121) - 60 }
	m := api.Machine{Name: "some", Limits: []api.Point{{}}}
	for i := range r.Intn(5) {
		c := api.Coil{Name: "c" + strconv.Itoa(i), Turns: 1 + r.Intn(100), MaxCurrent: 1 + upTo(r, api.MaxAmp-1), MaxStep: 1 + upTo(r, api.MaxAmp-1), MaxHeat: 1 + upTo(r, 1e12-1), Cool: upTo(r, 1e9)}
		c.R, c.Z = place()
		m.Coils = append(m.Coils, c)
	}
	for range r.Intn(5) {
		s := api.Shell{Self: 1 + upTo(r, 1e9-1), Loss: 1 + upTo(r, 999)}
		s.R, s.Z = place()
		m.Shells = append(m.Shells, s)
	}
	g := api.Grid{NR: 1 + r.Intn(8), NZ: 1 + r.Intn(8), Step: 1 + r.Intn(10)}
	g.R = -60 + r.Intn(121-(g.NR-1)*g.Step)
	g.Z = -60 + r.Intn(121-(g.NZ-1)*g.Step)
	m.Grid = g
	return m
}

// upTo returns a number from 0 to most: a small one as often as a large one.
func upTo(r *rand.Rand, most int) int {
	switch r.Intn(4) {
	case 0:
		return r.Intn(most + 1)
	case 1:
		return most - r.Intn(min(most, 3)+1)
	default:
		return r.Intn(min(most, 5000) + 1)
	}
}

func signed(r *rand.Rand, n int) int {
	if r.Intn(2) == 0 {
		return -n
	}
	return n
}

func someCells(r *rand.Rand, m api.Machine) []int {
	l := make([]int, m.Grid.NR*m.Grid.NZ)
	left := upTo(r, api.MaxAmp)
	for i := range l {
		if r.Intn(3) > 0 {
			l[i] = r.Intn(left + 1)
			left -= l[i]
		}
	}
	r.Shuffle(len(l), func(i, j int) { l[i], l[j] = l[j], l[i] })
	return l
}

func someState(r *rand.Rand, m api.Machine) api.State {
	s := api.State{Tick: upTo(r, lastTick-100), C: machine.Quiet(m)}
	for i, c := range m.Coils {
		s.C.Coils[i] = signed(r, upTo(r, []int{c.MaxCurrent, api.MaxAmp}[r.Intn(2)]))
		s.Heat = append(s.Heat, upTo(r, []int{c.MaxHeat, api.MaxValue}[r.Intn(2)]))
		s.Tripped = append(s.Tripped, r.Intn(2) == 0)
	}
	for i := range s.C.Shells {
		s.C.Shells[i] = signed(r, upTo(r, api.MaxAmp))
	}
	s.C.Plasma = someCells(r, m)
	return s
}

func someDrive(r *rand.Rand, m api.Machine) api.Drive {
	d := api.Drive{Plasma: someCells(r, m)}
	for _, c := range m.Coils {
		d.Change = append(d.Change, signed(r, upTo(r, []int{c.MaxStep, api.MaxValue}[r.Intn(2)])))
	}
	return d
}

func someDrives(r *rand.Rand, m api.Machine, n int) []api.Drive {
	var l []api.Drive
	for range n {
		l = append(l, someDrive(r, m))
	}
	return l
}
