package guard_test

import (
	"fmt"
	"math/rand"
	"reflect"
	"slices"
	"strings"
	"testing"

	"shotdesk/api"
	"shotdesk/circuit"
	"shotdesk/guard"
)

// args are arguments for all functions.
type args struct {
	c    api.Cond
	text string
	l    []api.Rule
	g    api.Guard
	h    [][]api.Signal // of which the first tick stands for all ticks where one is asked for
	mode int
	m    api.Machine
	s    api.State
	b    api.Safety
	most int
}

func (a args) signals() []api.Signal {
	if len(a.h) == 0 {
		return nil
	}
	return a.h[0]
}

func (a args) rule() api.Rule {
	if len(a.l) == 0 {
		return api.Rule{}
	}
	return a.l[0]
}

// someArgs returns random arguments that are valid.
func someArgs(r *rand.Rand) args {
	a := args{c: someCond(r, 1+r.Intn(12)), l: someRules(r), h: someHistory(r), mode: r.Intn(5), b: safety(r.Intn(500)), most: r.Intn(30)}
	a.g = someGuard(r, a.l)
	a.m, a.s = some(r)
	a.text = guard.FormatCond(a.c)
	if r.Intn(2) == 0 {
		a.text = guard.FormatRules(a.l)
	}
	return a
}

// outcome are the results of a call; e is OK for one that has no error.
type outcome struct {
	results []any
	e       api.Errno
}

func sure(results ...any) outcome { return outcome{results, api.OK} }

func first[T any](result T, e api.Errno) outcome { return outcome{[]any{result}, e} }

// all calls everything.
func all(t *testing.T, a args) map[string]outcome {
	t.Helper()
	l, line, e := guard.ParseRules(a.text)
	outcomes := map[string]outcome{
		"ValidCond": sure(guard.ValidCond(a.c)), "Eval": sure(guard.Eval(a.c, a.signals())), "Names": sure(guard.Names(a.c)), "FormatCond": sure(guard.FormatCond(a.c)),
		"ValidRules": sure(guard.ValidRules(a.l)), "FormatRules": sure(guard.FormatRules(a.l)), "ValidGuard": sure(guard.ValidGuard(a.l, a.g)), "Word": sure(guard.Word(a.mode)),
		"ParseCond": first(guard.ParseCond(a.text)), "Begin": first(guard.Begin(a.l)), "Refill": first(guard.Refill(a.l, a.g)), "Step": first(guard.Step(a.l, a.g, a.signals())),
		"Run": first(guard.Run(a.l, a.h)), "Fired": first(guard.Fired(a.rule(), a.h)), "First": first(guard.First(a.l, a.h, a.mode)),
		"Drop": first(guard.Drop(a.m, a.s, a.b)), "Ramp": first(guard.Ramp(a.m, a.s, a.b, a.most)),
		"ParseRules": {[]any{l}, e},
	}
	if e != api.ErrSyntax && line != 0 {
		t.Errorf("ParseRules: the line is %d with the error %d", line, e)
	}
	for name, o := range outcomes {
		for _, result := range o.results {
			if o.e != api.OK && !isZero(reflect.ValueOf(result)) {
				t.Errorf("%s: %d comes with %v", name, o.e, result)
			}
		}
	}
	return outcomes
}

// anyNumber is often near to what counts.
func anyNumber(r *rand.Rand) int {
	list := append([]int{-1, 0, 1, 2, 5, 7, 16, 17, 65, 1000, 1001, maxStreak, maxStreak + 1, api.MaxAmp + 1, lastTick, lastTick + 1, api.MaxValue, int(r.Uint64())}, wild...)
	return list[r.Intn(len(list))]
}

// numbers are places of numbers in arguments.
func numbers(a *args) []*int {
	l := []*int{&a.c.Op, &a.c.N, &a.c.M, &a.g.Mode, &a.mode, &a.b.Shell, &a.b.Force, &a.most, &a.s.Tick, &a.m.Grid.NR, &a.m.Grid.Step, &a.m.Limits[0].R}
	for i := range a.l {
		x := &a.l[i]
		l = append(l, &x.For, &x.Doubt, &x.Mode, &x.Clear, &x.When.Op, &x.When.N, &x.When.M)
	}
	l = append(l, watches(&a.g)...)
	for _, list := range [][]int{a.s.C.Coils, a.s.C.Shells, a.s.C.Plasma, a.s.Heat} {
		for i := range list {
			l = append(l, &list[i])
		}
	}
	for _, signals := range a.h {
		for i := range signals {
			l = append(l, &signals[i].Value.Lo, &signals[i].Value.Hi)
		}
	}
	return l
}

// spoiled changes arguments, so that most are not valid any more.
func spoiled(r *rand.Rand, a args) args {
	for range 1 + r.Intn(4) {
		list := numbers(&a)
		*list[r.Intn(len(list))] = anyNumber(r)
	}
	switch r.Intn(8) {
	case 0:
		a.c = looped()
	case 1:
		a.c = api.Cond{Op: anyNumber(r), Name: "a", Kids: []api.Cond{a.c, {}}}
	case 2:
		a.l = append(a.l, api.Rule{Name: "last", When: endless(), For: 1, Mode: 1})
	case 3:
		a.g.Watches = nil
	case 4:
		a.s.C.Shells, a.m.Limits = nil, nil
	case 5:
		a.h = append(a.h, nil)
	}
	if cut := r.Intn(len(a.text) + 1); r.Intn(2) == 0 {
		a.text = a.text[:cut] + []string{"( ", " not ", "\n", " 1 ", "\xff", ""}[r.Intn(6)] + a.text[cut:]
	}
	return a
}

// R1, R3, P8.1: no call panics, and errors come with zero values
func TestAnyArguments(t *testing.T) {
	r := rand.New(rand.NewSource(15))
	errors := map[api.Errno]int{}
	for range 5000 {
		for _, o := range all(t, spoiled(r, someArgs(r))) {
			errors[o.e]++
		}
	}
	all(t, args{})
	for _, e := range []api.Errno{api.OK, api.ErrInvalid, api.ErrSyntax, api.ErrRange, api.ErrNone} {
		if errors[e] < 100 {
			t.Errorf("too few cases: %v", errors)
		}
	}
}

// P8.1: guards and states that are returned are valid
func TestValidResults(t *testing.T) {
	r := rand.New(rand.NewSource(16))
	for range 1000 {
		a := someArgs(r)
		outcomes := all(t, a)
		for _, name := range []string{"Begin", "Refill", "Step"} {
			g, _ := outcomes[name].results[0].(api.Guard)
			if outcomes[name].e != api.OK || !guard.ValidGuard(a.l, g) {
				t.Errorf("%s = %v", name, outcomes[name])
			}
		}
		guards, _ := outcomes["Run"].results[0].([]api.Guard)
		same(t, "the number of Run's guards", len(guards), len(a.h)+1)
		same(t, "a guard of Run that is not valid", slices.ContainsFunc(guards, func(g api.Guard) bool { return !guard.ValidGuard(a.l, g) }), false)
		states, _ := outcomes["Ramp"].results[0].([]api.State)
		same(t, "a state of Ramp that is not valid", slices.ContainsFunc(states, func(s api.State) bool { return !circuit.ValidState(a.m, s) }), false)
		same(t, "whether Ramp has states", len(states) > 0, outcomes["Ramp"].e == api.OK)
	}
}

// room gives a list spare capacity, with something in it.
func room[T any](list []T, spare T) []T {
	return append(append(make([]T, 0, len(list)+2), list...), spare, spare)[:len(list)]
}

func roomyCond(c api.Cond) api.Cond {
	c.Kids = room(c.Kids, high)
	for i, kid := range c.Kids {
		c.Kids[i] = roomyCond(kid)
	}
	return c
}

// roomy returns a copy of arguments in which all lists have room.
func roomy(a args) args {
	a.c = roomyCond(a.c)
	a.l = room(a.l, drift())
	for i := range a.l {
		a.l[i].When = roomyCond(a.l[i].When)
	}
	a.g.Watches = room(a.g.Watches, api.Watch{True: 99})
	a.h = room(a.h, nil)
	for i := range a.h {
		a.h[i] = room(a.h[i], signal("spare", 9, 99))
	}
	a.m.Coils, a.m.Shells, a.m.Limits = room(a.m.Coils, api.Coil{Name: "spare"}), room(a.m.Shells, api.Shell{R: 99}), room(a.m.Limits, api.Point{R: 99})
	a.s.C = api.Currents{Coils: room(a.s.C.Coils, 99), Shells: room(a.s.C.Shells, 99), Plasma: room(a.s.C.Plasma, 99)}
	a.s.Heat, a.s.Tripped = room(a.s.Heat, 99), room(a.s.Tripped, true)
	return a
}

// lists returns all slices in a value, with their spare capacity, the inner ones first.
func lists(v reflect.Value) []reflect.Value {
	var l []reflect.Value
	switch v.Kind() {
	case reflect.Slice:
		whole := v.Slice(0, v.Cap())
		for i := range whole.Len() {
			l = append(l, lists(whole.Index(i))...)
		}
		return append(l, whole)
	case reflect.Struct:
		for i := range v.NumField() {
			l = append(l, lists(v.Field(i))...)
		}
	}
	return l
}

// memory returns what is in the lists of arguments.
func memory(a args) string {
	var text strings.Builder
	for _, list := range lists(reflect.ValueOf(a)) {
		fmt.Fprintln(&text, list)
	}
	return text.String()
}

// overwrite spoils the lists of a result, also in their spare capacity.
func overwrite(result any) {
	for _, list := range lists(reflect.ValueOf(result)) {
		for i := range list.Len() {
			list.Index(i).SetZero()
		}
	}
}

// R4, R7, P8.1: arguments stay as they are, results are new memory, and a call again gives the same
func TestNewMemory(t *testing.T) {
	r := rand.New(rand.NewSource(17))
	for range 300 {
		a := roomy(someArgs(r))
		before := memory(a)
		first, again := all(t, a), all(t, a)
		if !reflect.DeepEqual(first, again) {
			t.Errorf("a call again gives %v, not %v", again, first)
		}
		for _, o := range again {
			for _, result := range o.results {
				overwrite(result)
			}
		}
		if memory(a) != before {
			t.Error("a call has changed its arguments, or kept them in its results")
		}
		if third := all(t, a); !reflect.DeepEqual(first, third) {
			t.Errorf("after the results were overwritten, a call gives %v, not %v", third, first)
		}
	}
}

// R4: no two lists of a result share memory
func TestListsApart(t *testing.T) {
	r := rand.New(rand.NewSource(18))
	for range 300 {
		for name, o := range all(t, someArgs(r)) {
			for _, result := range o.results {
				checkApart(t, name, reflect.ValueOf(result))
			}
		}
	}
}

// checkApart looks for memory that two lists of a result have in common, as far as their capacities go.
func checkApart(t *testing.T, name string, result reflect.Value) {
	t.Helper()
	type part struct{ from, to uintptr }
	var parts []part
	for _, list := range lists(result) {
		if list.Len() > 0 {
			from := list.Pointer()
			parts = append(parts, part{from, from + uintptr(list.Len())*list.Type().Elem().Size()})
		}
	}
	slices.SortFunc(parts, func(a, b part) int { return int(a.from) - int(b.from) })
	for i := 1; i < len(parts); i++ {
		if parts[i].from < parts[i-1].to {
			t.Errorf("two lists of %s share memory", name)
		}
	}
}

// R4: a nil list and an empty one are the same
func TestNilAndEmpty(t *testing.T) {
	a := args{c: high, h: [][]api.Signal{nil}, m: api.Machine{Name: "m", Limits: []api.Point{{}}, Grid: api.Grid{NR: 1, NZ: 1, Step: 1}}, s: api.State{C: api.Currents{Plasma: []int{5}}}, most: 3}
	b := a
	b.c.Kids, b.l, b.g.Watches, b.h = []api.Cond{}, []api.Rule{}, []api.Watch{}, [][]api.Signal{{}}
	b.m.Coils, b.m.Shells, b.m.Sensors = []api.Coil{}, []api.Shell{}, []api.Sensor{}
	b.s.C.Coils, b.s.C.Shells, b.s.Heat, b.s.Tripped = []int{}, []int{}, []int{}, []bool{}
	outcomes := all(t, a)
	if first, second := fmt.Sprint(outcomes), fmt.Sprint(all(t, b)); first != second {
		t.Errorf("of nil %v, of empty lists %v", first, second)
	}
	for _, name := range []string{"Begin", "Refill", "Step", "Run", "First", "Drop", "Ramp"} {
		same(t, name+" of empty lists", outcomes[name].e, api.OK)
	}
	same(t, "ValidCond with empty Kids", guard.ValidCond(b.c), true)
	is(t, "Fired of no ticks", []bool{})(guard.Fired(drift(), [][]api.Signal{}))
}
