package plan_test

import (
	"math"
	"math/rand"
	"reflect"
	"slices"
	"strconv"
	"strings"
	"testing"

	"shotdesk/api"
	"shotdesk/plan"
)

const lastTick = 1000000000

// wild are numbers that are in no range.
var wild = []int{math.MinInt, math.MinInt + 1, -1 << 62, -api.MaxValue - 1, api.MaxValue + 1, 1 << 62, math.MaxInt - 1, math.MaxInt}

// wrongNames are no names.
var wrongNames = []string{"", "A", "1a", "_a", "a b", "a-b", " a", "a\n", "ä", "abcdefghijklmnopq", strings.Repeat("a", 100000)}

// toy is a machine with two coils and two shells.
func toy() api.Machine {
	return api.Machine{
		Name: "toy",
		Coils: []api.Coil{
			{Name: "oh", R: 0, Z: 0, Turns: 2, MaxCurrent: 1000, MaxStep: 100, MaxHeat: 5000, Cool: 50},
			{Name: "up", R: 10, Z: 8, Turns: 3, MaxCurrent: 800, MaxStep: 60, MaxHeat: 3001, Cool: 40},
		},
		Shells:  []api.Shell{{R: 3, Z: 4, Self: 1000000, Loss: 100}, {R: -2, Z: 5, Self: 700000, Loss: 37}},
		Limits:  []api.Point{{R: 8, Z: 0}},
		Grid:    api.Grid{R: 10, Z: -2, NR: 3, NZ: 2, Step: 2},
		Sensors: []api.Sensor{{Name: "a", Kind: api.SFlux, R: 5, Z: 6, Error: 7}},
	}
}

// corners returns corners of numbers: At and Value in turn.
func corners(numbers ...int) []api.Corner {
	var l []api.Corner
	for i := 0; i < len(numbers); i += 2 {
		l = append(l, api.Corner{At: numbers[i], Value: numbers[i+1]})
	}
	return l
}

// demo is a plan that is valid for the toy, without a break.
func demo() api.Plan {
	return api.Plan{
		Name: "demo", Owner: "ann", Ticks: 20,
		Current: corners(0, 0, 5, 100, 15, 90, 20, 0),
		Waves:   []api.Wave{{Coil: "up", Corners: corners(0, 0, 4, -100, 10, 50)}, {Coil: "oh", Corners: corners(0, 0, 10, 100, 20, 50)}},
		Aims:    []api.Aim{{At: 2, Goal: api.Goal{R: 11000, Z: -300}}, {At: 7, Goal: api.Goal{R: 12000}}},
		Bounds:  []api.Bound{{Kind: api.BRadius, Keep: api.Span{Lo: 9000, Hi: 12500}}, {Kind: api.BLift, Keep: api.Span{Lo: -5, Hi: 5}}},
		Rules: []api.Rule{
			{Name: "drift", When: api.Cond{Op: api.COr, Kids: []api.Cond{{Op: api.CMore, Name: "height", N: 3000}, {Op: api.CMore, Name: "blame", N: 2}}}, For: 2, Doubt: 5, Mode: api.MSoft},
			{Name: "lost", When: api.Cond{Op: api.CNot, Kids: []api.Cond{{Op: api.CIs, Name: "current", N: 1, M: 99}}}, For: 1, Mode: api.MGas, Clear: 3},
		},
		Safety: api.Safety{Shell: 5000, Force: 100000}, Purse: 1000000000,
	}
}

const demoText = `plan demo by ann
ticks 20
current 0:0 5:100 15:90 20:0
coil up 0:0 4:-100 10:50
coil oh 0:0 10:100 20:50
aim 2 11000 -300
aim 7 12000 0
bound radius 9000..12500
bound lift -5..5
rule drift when height > 3000 or blame > 2 for 2 doubt 5 mode soft clear 0
rule lost when not current from 1 to 99 for 1 doubt 0 mode gas clear 3
safety 5000 100000
purse 1000000000
`

// bare is a machine of what a machine must have, a plan of what a plan must have, and a state.
func bare() (api.Machine, api.Plan, api.State) {
	m := api.Machine{Name: "m", Limits: []api.Point{{}}, Grid: api.Grid{NR: 1, NZ: 1, Step: 1}}
	return m, api.Plan{Name: "p", Owner: "o", Ticks: 1, Current: corners(0, 0)}, api.State{C: api.Currents{Plasma: []int{5}}}
}

func same[T comparable](t *testing.T, call string, got, want T) {
	t.Helper()
	if got != want {
		t.Errorf("%s = %v, not %v", call, got, want)
	}
}

// alike takes a nil list and an empty one for the same, wherever they are.
func alike(a, b reflect.Value) bool {
	switch a.Kind() {
	case reflect.Slice:
		if a.Len() != b.Len() {
			return false
		}
		for i := range a.Len() {
			if !alike(a.Index(i), b.Index(i)) {
				return false
			}
		}
		return true
	case reflect.Struct:
		for i := range a.NumField() {
			if !alike(a.Field(i), b.Field(i)) {
				return false
			}
		}
		return true
	}
	return a.Equal(b)
}

func equal[T any](a, b T) bool { return alike(reflect.ValueOf(a), reflect.ValueOf(b)) }

// is returns a check for a result that comes without an error.
func is[T any](t *testing.T, call string, want T) func(T, api.Errno) {
	t.Helper()
	return func(got T, e api.Errno) {
		t.Helper()
		if e != api.OK || !equal(got, want) {
			t.Errorf("%s = %v, %d, not %v", call, got, e, want)
		}
	}
}

// fails returns a check for an error that comes alone.
func fails[T any](t *testing.T, call string, want api.Errno) func(T, api.Errno) {
	t.Helper()
	return func(got T, e api.Errno) {
		t.Helper()
		var zero T
		if e != want || !equal(got, zero) {
			t.Errorf("%s = %v, %d, not %d", call, got, e, want)
		}
	}
}

// enough checks that random cases met what they are to meet.
func enough[K comparable](t *testing.T, cases map[K]int, least int, names ...K) {
	t.Helper()
	for _, name := range names {
		if cases[name] < least {
			t.Errorf("too few cases of %v: %v", name, cases)
		}
	}
}

// A flaw makes a machine or a plan wrong. Of two flaws with different places, the one with the lesser place is told.
type flaw struct {
	what  string
	place int
	make  func(m *api.Machine, p *api.Plan)
	e     api.Errno
}

// ofPlan returns a flaw of the plan alone.
func ofPlan(what string, place int, e api.Errno, make func(p *api.Plan)) flaw {
	return flaw{what, place, func(_ *api.Machine, p *api.Plan) { make(p) }, e}
}

func flaws() []flaw {
	return slices.Concat(nameFlaws(), currentFlaws(), waveFlaws(), aimFlaws(), listFlaws(), numberFlaws())
}

func nameFlaws() []flaw {
	l := []flaw{
		{"no machine", 1, func(m *api.Machine, _ *api.Plan) { *m = api.Machine{} }, api.ErrInvalid},
		{"a machine without a name", 1, func(m *api.Machine, _ *api.Plan) { m.Name = "" }, api.ErrInvalid},
		{"a machine without a limiter point", 1, func(m *api.Machine, _ *api.Plan) { m.Limits = nil }, api.ErrInvalid},
		{"a machine with a wrong coil", 1, func(m *api.Machine, _ *api.Plan) { m.Coils[1].Turns = 0 }, api.ErrInvalid},
		{"a machine with a wrong shell", 1, func(m *api.Machine, _ *api.Plan) { m.Shells[0].Self = 0 }, api.ErrInvalid},
		{"a machine with a wrong sensor", 1, func(m *api.Machine, _ *api.Plan) { m.Sensors[0].Kind = 4 }, api.ErrInvalid},
		{"a grid that is too large", 1, func(m *api.Machine, _ *api.Plan) { m.Grid.NR = math.MaxInt }, api.ErrInvalid},
	}
	for _, name := range wrongNames {
		l = append(l,
			ofPlan("the name "+name[:min(len(name), 20)], 1, api.ErrInvalid, func(p *api.Plan) { p.Name = name }),
			ofPlan("the owner "+name[:min(len(name), 20)], 1, api.ErrInvalid, func(p *api.Plan) { p.Owner = name }))
	}
	return l
}

// wrongCorners are lists of corners that are not valid.
func wrongCorners() map[string][]api.Corner {
	l := map[string][]api.Corner{
		"no corners": nil, "a first corner at 1": corners(1, 0, 2, 0), "a first corner at -1": corners(-1, 0, 2, 0), "33 corners": manyCorners(33), "a million corners": manyCorners(1000000),
		"two corners at a tick": corners(0, 0, 3, 0, 3, 0), "two corners at 0": corners(0, 0, 0, 0), "corners that go back": corners(0, 0, 3, 0, 2, 0),
		"a last corner that goes back": corners(0, 0, 3, 0, 7, 0, 6, 0), "a corner behind the end": corners(0, 0, 401, 0), "a corner behind the end, and another one": corners(0, 0, 401, 0, 402, 0),
		"too large a value": corners(0, 0, 3, api.MaxAmp+1), "too small a value": corners(0, 0, 3, -api.MaxAmp-1, 5, 0), "a first value that is too large": corners(0, api.MaxAmp+1),
	}
	for _, n := range wild {
		l["a value "+strconv.Itoa(n)], l["a first value "+strconv.Itoa(n)] = corners(0, 0, 3, n), corners(0, n, 3, 0)
		l["a corner at "+strconv.Itoa(n)], l["a first corner at "+strconv.Itoa(n)] = corners(0, 0, n, 0), corners(n, 0)
		l["a corner at "+strconv.Itoa(n)+" and another one"] = corners(0, 0, n, 0, 5, 0)
	}
	return l
}

// manyCorners returns so many corners, one a tick.
func manyCorners(n int) []api.Corner {
	l := make([]api.Corner, n)
	for i := range l {
		l[i].At = i
	}
	return l
}

func currentFlaws() []flaw {
	var l []flaw
	for what, wrong := range wrongCorners() {
		l = append(l, ofPlan("a current of "+what, 3, api.ErrInvalid, func(p *api.Plan) { p.Current = wrong }))
	}
	for what, wrong := range map[string][]api.Corner{
		"a first value 1": corners(0, 1, 3, 0), "a first value -1": corners(0, -1, 3, 0), "a value -1": corners(0, 0, 3, -1, 5, 0),
		"a last value -1": corners(0, 0, 3, 1, 5, -1), "a single value 1": corners(0, 1), "the least value": corners(0, 0, 400, -api.MaxAmp),
	} {
		l = append(l, ofPlan("a current with "+what, 3, api.ErrRange, func(p *api.Plan) { p.Current = wrong }))
	}
	return append(l,
		ofPlan("a current below 0 with a corner behind the end", 3, api.ErrInvalid, func(p *api.Plan) { p.Current = corners(0, 1, 3, -1, 401, 0) }))
}

func waveFlaws() []flaw {
	wave := func(coil string, numbers ...int) api.Wave { return api.Wave{Coil: coil, Corners: corners(numbers...)} }
	list := func(what string, e api.Errno, l ...api.Wave) flaw {
		return ofPlan(what, 4, e, func(p *api.Plan) { p.Waves = l })
	}
	good := wave("oh", 0, 0, 5, 100)
	l := []flaw{
		list("13 waves", api.ErrLimit, slices.Repeat([]api.Wave{good}, 13)...), list("13 waves of nothing", api.ErrLimit, make([]api.Wave, 13)...), list("many waves", api.ErrLimit, make([]api.Wave, 100000)...),
		list("12 waves of a coil", api.ErrDuplicate, slices.Repeat([]api.Wave{good}, 12)...),
		list("a wave of nothing", api.ErrName, api.Wave{}), list("an unknown coil", api.ErrName, good, wave("ohh", 0, 0)), list("a coil with a large letter", api.ErrName, wave("Oh", 0, 0)),
		list("an unknown coil twice", api.ErrName, wave("x", 0, 0), wave("x", 0, 0)), list("an unknown coil without corners", api.ErrName, wave("x")),
		list("a coil twice", api.ErrDuplicate, good, good), list("a coil again, without corners", api.ErrDuplicate, wave("up", 0, 0), good, wave("up")), list("a coil again, that rises", api.ErrDuplicate, good, wave("oh", 0, 5, 1, 999)),
		list("a first value", api.ErrRange, wave("oh", 0, 1, 2, 0)), list("a first value below 0", api.ErrRange, wave("oh", 0, -1, 2, 0)), list("a single value", api.ErrRange, wave("oh", 0, 1)),
		list("a value beyond MaxCurrent", api.ErrRange, wave("oh", 0, 0, 100, 1001)), list("a value beyond -MaxCurrent", api.ErrRange, wave("oh", 0, 0, 100, -1001)),
		list("a value beyond it in the middle", api.ErrRange, wave("up", 0, 0, 100, 801, 200, 0)), list("too large a rise", api.ErrRange, wave("oh", 0, 0, 1, 101)), list("too large a fall", api.ErrRange, wave("oh", 0, 0, 1, -101)),
		list("too large a rise of ticks", api.ErrRange, wave("up", 0, 0, 3, 100, 5, 221)), list("a rise of a little too much", api.ErrRange, wave("up", 0, 0, 7, 7*60+1)), list("a fall of a little too much", api.ErrRange, wave("up", 0, 0, 10, 300, 17, -121)),
		// the first wave with an error decides
		list("no rise, then a name", api.ErrRange, wave("oh", 0, 5), wave("x", 0, 0)), list("no corners, then a name", api.ErrInvalid, wave("oh"), wave("x", 0, 0)), list("a name, then no corners", api.ErrName, wave("x", 0, 0), wave("oh")),
		list("a coil twice, of which the first is wrong", api.ErrInvalid, wave("oh", 1, 0), good),
	}
	for what, wrong := range wrongCorners() {
		l = append(l, list("a wave of "+what, api.ErrInvalid, wave("up", 0, 0), api.Wave{Coil: "oh", Corners: wrong}))
	}
	return l
}

func aimFlaws() []flaw {
	list := func(what string, e api.Errno, l ...api.Aim) flaw {
		return ofPlan(what, 5, e, func(p *api.Plan) { p.Aims = l })
	}
	at := func(n int) api.Aim { return api.Aim{At: n} }
	far := func(n, r, z int) api.Aim { return api.Aim{At: n, Goal: api.Goal{R: r, Z: z}} }
	var many []api.Aim
	for i := range 17 {
		many = append(many, at(i))
	}
	l := []flaw{
		list("17 aims", api.ErrLimit, many...), list("17 aims at 0", api.ErrLimit, make([]api.Aim, 17)...), list("many aims", api.ErrLimit, make([]api.Aim, 100000)...), list("16 aims at 0", api.ErrOrder, make([]api.Aim, 16)...),
		list("an aim at -1", api.ErrOrder, at(-1)), list("an aim behind the end", api.ErrOrder, at(5), at(401)), list("two aims at a tick", api.ErrOrder, at(5), at(5)), list("two aims at 0", api.ErrOrder, at(0), at(0)),
		list("aims that go back", api.ErrOrder, at(5), at(6), at(4)),
		list("a goal too far right", api.ErrRange, far(0, 60001, 0)), list("a goal too far left", api.ErrRange, far(0, -60001, 0)), list("a goal too high", api.ErrRange, at(0), far(3, 0, 60001)), list("a goal too low", api.ErrRange, far(400, 0, -60001)),
		list("an aim far away at -1", api.ErrOrder, far(-1, 60001, 0)), list("an aim far away before one at -1", api.ErrRange, far(1, 60001, 0), at(-1)), list("one at -1 before one far away", api.ErrOrder, at(-1), far(1, 60001, 0)),
	}
	for _, n := range wild {
		l = append(l, list("an aim at "+strconv.Itoa(n), api.ErrOrder, at(n)), list("aims at 3 and "+strconv.Itoa(n), api.ErrOrder, at(3), at(n), at(9)),
			list("a goal at "+strconv.Itoa(n), api.ErrRange, far(3, n, 0)), list("a goal as high as "+strconv.Itoa(n), api.ErrRange, far(3, 0, n)))
	}
	return l
}

func listFlaws() []flaw {
	change := func(what string, make func(p *api.Plan)) flaw { return ofPlan(what, 6, api.ErrInvalid, make) }
	l := []flaw{
		change("17 bounds", func(p *api.Plan) { p.Bounds = slices.Repeat(p.Bounds[:1], 17) }), change("a bound of no kind", func(p *api.Plan) { p.Bounds[1].Kind = 0 }), change("a bound of the kind 9", func(p *api.Plan) { p.Bounds[0].Kind = 9 }),
		change("a bound the wrong way", func(p *api.Plan) { p.Bounds[1].Keep.Lo = 6 }), change("a bound that is too large", func(p *api.Plan) { p.Bounds[1].Keep.Hi = api.MaxValue + 1 }),
		change("a rule twice", func(p *api.Plan) { p.Rules = append(p.Rules, p.Rules[0]) }), change("a rule of nothing", func(p *api.Plan) { p.Rules[1] = api.Rule{} }), change("a rule of no ticks", func(p *api.Plan) { p.Rules[0].For = 0 }),
		change("a rule of no condition", func(p *api.Plan) { p.Rules[0].When.Kids = nil }), change("a rule of a reserved word", func(p *api.Plan) { p.Rules[0].Name = "soft" }), change("a rule without an end", func(p *api.Plan) { p.Rules[0].When = endless() }),
		change("17 rules", func(p *api.Plan) {
			for i := range 15 {
				x := p.Rules[0]
				x.Name = "r" + strconv.Itoa(i)
				p.Rules = append(p.Rules, x)
			}
		}),
		change("a shell below 0", func(p *api.Plan) { p.Safety.Shell = -1 }), change("a shell above MaxAmp", func(p *api.Plan) { p.Safety.Shell = api.MaxAmp + 1 }), change("a force below 0", func(p *api.Plan) { p.Safety.Force = -1 }),
	}
	for _, n := range wild {
		l = append(l, change("the shell "+strconv.Itoa(n), func(p *api.Plan) { p.Safety.Shell = n }), change("the force "+strconv.Itoa(n), func(p *api.Plan) { p.Safety.Force = n }))
	}
	return l
}

// endless is a not of itself.
func endless() api.Cond {
	kids := make([]api.Cond, 1)
	kids[0] = api.Cond{Op: api.CNot, Kids: kids}
	return kids[0]
}

func numberFlaws() []flaw {
	var l []flaw
	for _, n := range append([]int{0, -1, api.MaxTicks + 1}, wild...) {
		l = append(l, ofPlan("the ticks "+strconv.Itoa(n), 2, api.ErrRange, func(p *api.Plan) { p.Ticks = n }))
	}
	for _, n := range append([]int{-1}, wild...) {
		l = append(l, ofPlan("the purse "+strconv.Itoa(n), 7, api.ErrRange, func(p *api.Plan) { p.Purse = n }))
	}
	return l
}

// 9.1
func TestCheck(t *testing.T) {
	same(t, "Check of the demo", plan.Check(toy(), demo()), api.OK)
	small, least, _ := bare()
	same(t, "Check of the bare", plan.Check(small, least), api.OK)
	for _, f := range flaws() {
		m, p := toy(), demo()
		f.make(&m, &p)
		same(t, "Check with "+f.what, plan.Check(m, p), f.e)
	}
}

// 9.1, R2: of two errors the first is told
func TestCheckOrder(t *testing.T) {
	list := flaws()
	for _, f := range list {
		for _, g := range list {
			if f.place >= g.place {
				continue
			}
			m, p := toy(), demo()
			g.make(&m, &p)
			f.make(&m, &p)
			if e := plan.Check(m, p); e != f.e {
				t.Fatalf("Check with %s and %s = %d, not %d", f.what, g.what, e, f.e)
			}
		}
	}
}

// 9.1: what is just valid
func TestCheckEdges(t *testing.T) {
	m := toy()
	for what, change := range map[string]func(p *api.Plan){
		"a tick": func(p *api.Plan) { p.Ticks = 1 }, "400 ticks": func(p *api.Plan) { p.Ticks = 400 },
		"names of 16 bytes":     func(p *api.Plan) { p.Name, p.Owner = "abcdefghijklmnop", "p_01234567890abc" },
		"the owner as the name": func(p *api.Plan) { p.Owner = p.Name },
		"a single corner":       func(p *api.Plan) { p.Current = corners(0, 0) },
		"32 corners":            func(p *api.Plan) { p.Current = manyCorners(32) },
		"the greatest current":  func(p *api.Plan) { p.Current = corners(0, 0, 1, api.MaxAmp, 400, api.MaxAmp) },
		"no waves":              func(p *api.Plan) { p.Waves = nil },
		"a flat wave":           func(p *api.Plan) { p.Waves = []api.Wave{{Coil: "oh", Corners: corners(0, 0)}} },
		"the greatest values":   func(p *api.Plan) { p.Waves[1].Corners = corners(0, 0, 10, 1000, 30, -1000) },
		"the greatest rise":     func(p *api.Plan) { p.Waves[0].Corners = corners(0, 0, 1, 60, 3, -60, 10, 360) },
		"values behind the end": func(p *api.Plan) { p.Ticks, p.Waves[0].Corners = 3, corners(0, 0, 400, 800) },
		"no aims":               func(p *api.Plan) { p.Aims = nil },
		"aims at both ends":     func(p *api.Plan) { p.Aims = []api.Aim{{At: 0}, {At: 1}, {At: 400}} },
		"goals at all ends": func(p *api.Plan) {
			p.Aims[0].Goal, p.Aims[1].Goal = api.Goal{R: 60000, Z: -60000}, api.Goal{R: -60000, Z: 60000}
		},
		"no bounds and no rules": func(p *api.Plan) { p.Bounds, p.Rules = nil, nil },
		"16 bounds":              func(p *api.Plan) { p.Bounds = slices.Repeat(p.Bounds, 8) },
		"no safety and no purse": func(p *api.Plan) { p.Safety, p.Purse = api.Safety{}, 0 },
		"the greatest numbers": func(p *api.Plan) {
			p.Safety, p.Purse = api.Safety{Shell: api.MaxAmp, Force: api.MaxValue}, api.MaxValue
		},
		"16 aims": func(p *api.Plan) {
			p.Aims = nil
			for i := range 16 {
				p.Aims = append(p.Aims, api.Aim{At: i * 10})
			}
		},
	} {
		p := demo()
		change(&p)
		same(t, "Check with "+what, plan.Check(m, p), api.OK)
	}
	many, p := toy(), demo()
	p.Waves = nil
	for i := range 12 {
		c := many.Coils[0]
		c.Name = "c" + strconv.Itoa(i)
		many.Coils = append(many.Coils[:i], c)
		p.Waves = append(p.Waves, api.Wave{Coil: c.Name, Corners: corners(0, 0, 5, i)})
	}
	same(t, "Check with 12 waves", plan.Check(many, p), api.OK)
	slices.Reverse(p.Waves)
	same(t, "Check with 12 waves in another order", plan.Check(many, p), api.OK)
}

// 9.3
func TestAim(t *testing.T) {
	m, p := toy(), demo()
	first, second := p.Aims[0].Goal, p.Aims[1].Goal
	for tick, want := range map[int]api.Goal{2: first, 3: first, 6: first, 7: second, 8: second, 19: second, 20: second, 400: second, 1000000: second, math.MaxInt: second} {
		got, ok := plan.Aim(m, p, tick)
		if !ok || got != want {
			t.Errorf("Aim at %d = %v, %t, not %v", tick, got, ok, want)
		}
	}
	for _, tick := range []int{1, 0, -1, -400, math.MinInt} {
		got, ok := plan.Aim(m, p, tick)
		same(t, "Aim before the first", ok, false)
		same(t, "Aim before the first", got, api.Goal{})
	}
	p.Aims[0].At = 0
	got, ok := plan.Aim(m, p, 0)
	same(t, "Aim at 0", ok, true)
	same(t, "Aim at 0", got, first)
	p.Aims = nil
	_, ok = plan.Aim(m, p, 5)
	same(t, "Aim without aims", ok, false)
	for _, f := range flaws() {
		m, p := toy(), demo()
		f.make(&m, &p)
		got, ok := plan.Aim(m, p, 5)
		same(t, "Aim with "+f.what, ok, false)
		same(t, "Aim with "+f.what, got, api.Goal{})
	}
}

// 9.3: the last aim of all that are at most at the tick
func TestAimOfRandomPlans(t *testing.T) {
	r := rand.New(rand.NewSource(1))
	found := map[bool]int{}
	for range 3000 {
		m := some(r)
		p := somePlan(r, m)
		tick := r.Intn(430) - 15
		var want []api.Goal
		for _, a := range p.Aims {
			if a.At <= tick {
				want = []api.Goal{a.Goal}
			}
		}
		got, ok := plan.Aim(m, p, tick)
		found[ok]++
		if ok != (len(want) > 0) || ok && got != want[0] {
			t.Errorf("Aim of %v at %d = %v, %t", p.Aims, tick, got, ok)
		}
	}
	enough(t, found, 500, true, false)
}
