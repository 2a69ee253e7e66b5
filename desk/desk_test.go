package desk_test

import (
	"math"
	"reflect"
	"slices"
	"strconv"
	"strings"
	"testing"

	"shotdesk/api"
	"shotdesk/circuit"
	"shotdesk/desk"
	"shotdesk/plan"
)

const lastTick = 1000000000

// wild are numbers that are in no range.
var wild = []int{math.MinInt, math.MinInt + 1, -1 << 62, -api.MaxValue - 1, api.MaxValue + 1, 1 << 62, math.MaxInt - 1, math.MaxInt}

// wrongNames are no names.
var wrongNames = []string{"", "A", "1a", "_a", "a b", "a-b", " a", "a\n", "a|", "ä", "abcdefghijklmnopq", strings.Repeat("a", 100000)}

func sp(lo, hi int) api.Span { return api.Span{Lo: lo, Hi: hi} }

// corners returns corners of numbers: At and Value in turn.
func corners(numbers ...int) []api.Corner {
	var l []api.Corner
	for pair := range slices.Chunk(numbers, 2) {
		l = append(l, api.Corner{At: pair[0], Value: pair[1]})
	}
	return l
}

// tiny is a machine with the cell (0, 0), a limiter point beside it, and a coil. Without currents of the coil, a total of 6 and more has a proved box, in which the cell has it all, and one of 1 to 5 has none.
func tiny() api.Machine {
	return api.Machine{
		Name:   "tiny",
		Coils:  []api.Coil{{Name: "a", Z: 3, Turns: 1, MaxCurrent: 2000, MaxStep: 100, MaxHeat: 1000000, Cool: 1000}},
		Limits: []api.Point{{R: 1}},
		Grid:   api.Grid{NR: 1, NZ: 1, Step: 1},
	}
}

// toy is a machine with six cells, two coils, two shells and three sensors. The flux of its coil oh proves boxes of small plasmas.
func toy() api.Machine {
	return api.Machine{
		Name: "toy",
		Coils: []api.Coil{
			{Name: "oh", R: 0, Z: 0, Turns: 100, MaxCurrent: 1000, MaxStep: 100, MaxHeat: 100000, Cool: 50},
			{Name: "up", R: 12, Z: 9, Turns: 3, MaxCurrent: 800, MaxStep: 60, MaxHeat: 30001, Cool: 40},
		},
		Shells:  []api.Shell{{R: 16, Z: 6, Self: 1000000, Loss: 100}, {R: 7, Z: -7, Self: 700000, Loss: 37}},
		Limits:  []api.Point{{R: 20}, {R: 17, Z: 5}},
		Grid:    api.Grid{R: 10, Z: -2, NR: 3, NZ: 2, Step: 2},
		Sensors: []api.Sensor{{Name: "s1", Kind: api.SFlux, R: 5, Z: 6, Error: 90000}, {Name: "s2", Kind: api.SRadial, R: 8, Z: 4, Error: 30000}, {Name: "s3", Kind: api.SVertical, R: 9, Z: -6, Error: 20000}},
	}
}

// idle is a setup of a controller that never wishes anything.
func idle(m api.Machine) api.Setup {
	return api.Setup{Gains: make([]api.Gain, len(m.Coils)), Most: 1000}
}

// loose is a safety that nothing breaks.
func loose() api.Safety { return api.Safety{Shell: api.MaxAmp, Force: api.MaxValue} }

// simple is a plan with nothing but a plasma, for so many ticks.
func simple(ticks int, current ...int) api.Plan {
	return api.Plan{Name: "p", Owner: "ann", Ticks: ticks, Current: corners(current...), Safety: loose(), Purse: api.MaxValue}
}

// demo is a plan for the toy.
func demo() api.Plan {
	return api.Plan{
		Name: "demo", Owner: "ann", Ticks: 12,
		Current: corners(0, 0, 5, 100, 12, 30),
		Waves:   []api.Wave{{Coil: "up", Corners: corners(0, 0, 4, -100, 10, 50)}, {Coil: "oh", Corners: corners(0, 0, 4, 300, 20, 50)}},
		Aims:    []api.Aim{{At: 2, Goal: api.Goal{R: 11900, Z: -300}}, {At: 7, Goal: api.Goal{R: 11200, Z: -1000}}},
		Bounds:  []api.Bound{{Kind: api.BRadius, Keep: sp(11000, 11570)}, {Kind: api.BArea, Keep: sp(1, 6)}},
		Rules:   []api.Rule{{Name: "liars", When: api.Cond{Op: api.CMore, Name: "blame", N: 1}, For: 2, Doubt: 5, Mode: api.MWarn, Clear: 2}},
		Safety:  loose(), Purse: api.MaxValue,
	}
}

const demoText = `plan demo by ann
ticks 12
current 0:0 5:100 12:30
coil up 0:0 4:-100 10:50
coil oh 0:0 4:300 20:50
aim 2 11900 -300
aim 7 11200 -1000
bound radius 11000..11570
bound area 1..6
rule liars when blame > 1 for 2 doubt 5 mode warn clear 2
safety 1000000 1000000000000000
purse 1000000000000000
`

// keen is a setup for the toy.
func keen() api.Setup {
	return api.Setup{Gains: []api.Gain{{R: 30, Z: -10, SumR: 4}, {R: -25, Z: 17, SumZ: 3}}, Most: 2000}
}

// stormy is a scene for the toy.
func stormy() api.Scene {
	return api.Scene{
		Seed:   7,
		Faults: []api.Fault{{At: 3, Sensor: 1, Kind: api.FOffset, N: 900000}, {At: 4, Sensor: 0, Kind: api.FCut}},
		Pushes: []api.Push{{At: 6, Coil: 1, Change: -25}, {At: 6, Coil: 0, Change: 5}, {At: 6, Coil: 1, Change: 11}},
	}
}

const stormyText = `seed 7
offset 3 s2 900000
cut 4 s1
push 6 up -25
push 6 oh 5
push 6 up 11
`

// begun is the state at the tick 0.
func begun(t *testing.T, m api.Machine) api.State {
	t.Helper()
	s, e := circuit.Begin(m)
	if e != api.OK {
		t.Fatalf("Begin = %d", e)
	}
	return s
}

// fly flies a shot that must be one.
func fly(t *testing.T, m api.Machine, x api.Setup, s api.Scene, p api.Plan, b api.State) api.Shot {
	t.Helper()
	h, e := desk.Fly(m, x, s, p, b)
	if e != api.OK {
		t.Fatalf("Fly = %d", e)
	}
	return h
}

// states returns the states of a record that must have some.
func states(t *testing.T, m api.Machine, s api.Scene, h api.Shot) []api.State {
	t.Helper()
	l, e := desk.States(m, s, h)
	if e != api.OK {
		t.Fatalf("States = %d", e)
	}
	return l
}

func same[T comparable](t *testing.T, call string, got, want T) {
	t.Helper()
	if got != want {
		t.Errorf("%s = %v, not %v", call, got, want)
	}
}

// alike takes a nil list and an empty one for the same, wherever they are.
func alike(a, b reflect.Value) bool {
	switch a.Kind() {
	case reflect.Slice:
		if a.Len() != b.Len() {
			return false
		}
		for i := range a.Len() {
			if !alike(a.Index(i), b.Index(i)) {
				return false
			}
		}
		return true
	case reflect.Struct:
		for i := range a.NumField() {
			if !alike(a.Field(i), b.Field(i)) {
				return false
			}
		}
		return true
	}
	return a.Equal(b)
}

func equal[T any](a, b T) bool { return alike(reflect.ValueOf(&a).Elem(), reflect.ValueOf(&b).Elem()) }

// gives checks for a result.
func gives[T any](t *testing.T, call string, got, want T) {
	t.Helper()
	if !equal(got, want) {
		t.Errorf("%s = %v, not %v", call, got, want)
	}
}

// is returns a check for a result that comes without an error.
func is[T any](t *testing.T, call string, want T) func(T, api.Errno) {
	t.Helper()
	return func(got T, e api.Errno) {
		t.Helper()
		if e != api.OK || !equal(got, want) {
			t.Errorf("%s = %v, %d, not %v", call, got, e, want)
		}
	}
}

// fails returns a check for an error that comes alone.
func fails[T any](t *testing.T, call string, want api.Errno) func(T, api.Errno) {
	t.Helper()
	return func(got T, e api.Errno) {
		t.Helper()
		var zero T
		if e != want || !equal(got, zero) {
			t.Errorf("%s = %v, %d, not %d", call, got, e, want)
		}
	}
}

// enough holds random cases against a least number of each.
func enough(t *testing.T, cases map[string]int, least int, names ...string) {
	t.Helper()
	for _, name := range names {
		if cases[name] < least {
			t.Errorf("%s: only %d times", name, cases[name])
		}
	}
}

// hash is the hash of layer 3.
func hash(s string) uint64 {
	h := uint64(14695981039346656037)
	for i := range len(s) {
		h ^= uint64(s[i])
		h *= 1099511628211
	}
	return h
}

// keyOf is the key of a person for a plan.
func keyOf(t *testing.T, m api.Machine, p api.Plan, person string) uint64 {
	t.Helper()
	digest, e := plan.Digest(m, p)
	if e != api.OK {
		t.Fatalf("Digest = %d", e)
	}
	return hash(person + "\n" + strconv.FormatUint(digest, 10))
}

// brokenMachines are not valid.
func brokenMachines() []api.Machine {
	nameless, limitless, same := toy(), toy(), toy()
	nameless.Name, limitless.Limits = "", nil
	same.Coils[1].Name = "oh"
	return []api.Machine{{}, nameless, limitless, same}
}

// the plan and the scene are what their texts say
func TestDemo(t *testing.T) {
	same(t, "Format of the demo", plan.Format(toy(), demo()), demoText)
	same(t, "FormatScene of the scene", desk.FormatScene(toy(), stormy()), stormyText)
}
