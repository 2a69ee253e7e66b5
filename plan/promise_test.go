package plan_test

import (
	"fmt"
	"math/rand"
	"reflect"
	"slices"
	"strings"
	"testing"

	"shotdesk/api"
	"shotdesk/circuit"
	"shotdesk/plan"
)

// args are arguments for all functions.
type args struct {
	m               api.Machine
	p               api.Plan
	s               api.State
	l               []api.Corner
	text            string
	t, k            int
	day             []api.Request
	slots           []int
	requests, cover []int
	a, b            string
	x, y            uint64
}

// someArgs returns random arguments that are valid.
func someArgs(r *rand.Rand) args {
	m := some(r)
	a := args{m: m, p: somePlan(r, m), s: someState(r, m), l: someCorners(r), t: r.Intn(5), k: r.Intn(100), a: "bob", b: "eve"}
	a.text = plan.Format(m, a.p)
	for i := range r.Intn(6) {
		q := api.Request{Shot: "s" + string(rune('a'+i)), Slots: r.Perm(5)[:r.Intn(5)]}
		slices.Sort(q.Slots)
		a.day = append(a.day, q)
	}
	a.slots, a.requests, a.cover, _ = plan.Assign(a.day)
	digest, _ := plan.Digest(m, a.p)
	a.x, a.y = keyOf(a.a, digest), keyOf(a.b, digest)
	return a
}

// outcome are the results of a call; e is OK for one that has no error.
type outcome struct {
	results []any
	e       api.Errno
}

func sure(results ...any) outcome { return outcome{results, api.OK} }

func first[T any](result T, e api.Errno) outcome { return outcome{[]any{result}, e} }

// all calls everything.
func all(t *testing.T, a args) map[string]outcome {
	t.Helper()
	p, line, e := plan.Parse(a.m, a.text)
	goal, ok := plan.Aim(a.m, a.p, a.t)
	states, broken, noRehearsal := plan.Rehearse(a.m, a.p, a.s)
	heat, shell, force, swing, noLoads := plan.Loads(a.m, a.p, a.s)
	slots, requests, cover, noDay := plan.Assign(a.day)
	outcomes := map[string]outcome{
		"ValidCorners": sure(plan.ValidCorners(a.l)), "Value": sure(plan.Value(a.l, a.t)), "Rises": sure(plan.Rises(a.l)), "Check": sure(plan.Check(a.m, a.p)), "Format": sure(plan.Format(a.m, a.p)),
		"Parse": {[]any{p}, e}, "Digest": first(plan.Digest(a.m, a.p)), "Changes": first(plan.Changes(a.m, a.p, a.s, a.t)), "Aim": sure(goal, ok),
		"Rehearse": {[]any{states, broken}, noRehearsal}, "Loads": {[]any{heat, shell, force, swing}, noLoads}, "Rested": first(plan.Rested(a.m, a.s, a.k)), "Wait": first(plan.Wait(a.m, a.p, a.s)),
		"ValidDay": sure(plan.ValidDay(a.day)), "Assign": {[]any{slots, requests, cover}, noDay}, "Proved": sure(plan.Proved(a.day, a.slots, a.requests, a.cover)), "Keyed": sure(plan.Keyed(a.m, a.p, a.a, a.b, a.x, a.y)),
	}
	if e != api.ErrSyntax && line != 0 {
		t.Errorf("Parse: the line is %d with the error %d", line, e)
	}
	if !ok && goal != (api.Goal{}) {
		t.Errorf("Aim: false comes with %v", goal)
	}
	for name, o := range outcomes {
		for _, result := range o.results {
			if v := reflect.ValueOf(result); o.e != api.OK && !alike(v, reflect.Zero(v.Type())) {
				t.Errorf("%s: %d comes with %v", name, o.e, result)
			}
		}
	}
	return outcomes
}

// anyNumber is often near to what counts.
func anyNumber(r *rand.Rand) int {
	list := append([]int{-1, 0, 1, 2, 17, 33, 63, 64, 400, 401, api.MaxAmp, api.MaxAmp + 1, 60001, lastTick, lastTick - 5, lastTick + 1, api.MaxValue, int(r.Uint64())}, wild...)
	return list[r.Intn(len(list))]
}

// numbers are places of numbers in arguments.
func numbers(a *args) []*int {
	l := []*int{&a.p.Ticks, &a.p.Purse, &a.p.Safety.Shell, &a.p.Safety.Force, &a.t, &a.k, &a.s.Tick, &a.m.Grid.NR, &a.m.Grid.NZ, &a.m.Grid.Step, &a.m.Limits[0].R}
	lists := [][]api.Corner{a.l, a.p.Current}
	for _, w := range a.p.Waves {
		lists = append(lists, w.Corners)
	}
	for _, list := range lists {
		for i := range list {
			l = append(l, &list[i].At, &list[i].Value)
		}
	}
	for i := range a.p.Aims {
		l = append(l, &a.p.Aims[i].At, &a.p.Aims[i].Goal.R, &a.p.Aims[i].Goal.Z)
	}
	for i := range a.p.Bounds {
		l = append(l, &a.p.Bounds[i].Kind, &a.p.Bounds[i].Keep.Lo, &a.p.Bounds[i].Keep.Hi)
	}
	for i := range a.p.Rules {
		l = append(l, &a.p.Rules[i].For, &a.p.Rules[i].Mode, &a.p.Rules[i].When.Op)
	}
	for i := range a.m.Coils {
		l = append(l, &a.m.Coils[i].MaxStep, &a.m.Coils[i].MaxHeat, &a.m.Coils[i].Cool)
	}
	for _, list := range [][]int{a.s.C.Coils, a.s.C.Shells, a.s.C.Plasma, a.s.Heat, a.slots, a.requests, a.cover} {
		for i := range list {
			l = append(l, &list[i])
		}
	}
	for _, q := range a.day {
		for i := range q.Slots {
			l = append(l, &q.Slots[i])
		}
	}
	return l
}

// spoiled changes arguments, so that most are not valid any more.
func spoiled(r *rand.Rand, a args) args {
	for range r.Intn(4) {
		list := numbers(&a)
		*list[r.Intn(len(list))] = anyNumber(r)
	}
	switch r.Intn(12) {
	case 0:
		a.m.Limits, a.s.C.Shells = nil, nil
	case 1:
		a.p.Waves = append(a.p.Waves, api.Wave{Coil: "c0"})
	case 2:
		a.p.Rules = append(a.p.Rules, api.Rule{Name: "last", When: endless(), For: 1, Mode: 1})
	case 3:
		a.slots, a.p.Current, a.s.Heat = nil, nil, nil
	case 4:
		a.day, a.cover = append(a.day, api.Request{Shot: "sa"}), append(a.cover, 99)
	case 5:
		a.p.Name, a.a, a.b = "", "", "A"
	}
	if cut := r.Intn(len(a.text) + 1); r.Intn(2) == 0 {
		a.text = a.text[:cut] + []string{":", " 1:1", "\n", " 1 ", "\xff", ""}[r.Intn(6)] + a.text[cut:]
	}
	return a
}

// R1, R3, P9.1: no call panics, and errors come with zero values
func TestAnyArguments(t *testing.T) {
	r := rand.New(rand.NewSource(13))
	errors := map[api.Errno]int{}
	for range 4000 {
		for _, o := range all(t, spoiled(r, someArgs(r))) {
			errors[o.e]++
		}
	}
	all(t, args{})
	enough(t, errors, 100, api.OK, api.ErrInvalid, api.ErrSyntax, api.ErrRange, api.ErrNone, api.ErrOrder)
}

// P9.1: plans and states that are returned are valid, and all that is valid has its results
func TestValidResults(t *testing.T) {
	r := rand.New(rand.NewSource(14))
	for range 500 {
		a := someArgs(r)
		outcomes := all(t, a)
		for name, o := range outcomes {
			if o.e != api.OK && !(name == "Changes" && a.t >= a.p.Ticks) && !(name == "Wait" && o.e == api.ErrNone) {
				t.Errorf("%s = %v", name, o)
			}
		}
		states, _ := outcomes["Rehearse"].results[0].([]api.State)
		rested, _ := outcomes["Rested"].results[0].(api.State)
		same(t, "a state that is not valid", slices.ContainsFunc(append(states, rested), func(s api.State) bool { return !circuit.ValidState(a.m, s) }), false)
		p, _ := outcomes["Parse"].results[0].(api.Plan)
		same(t, "Check of what was read", plan.Check(a.m, p), api.OK)
		same(t, "Proved of what was assigned", outcomes["Proved"].results[0], any(true))
		same(t, "Keyed with both keys", outcomes["Keyed"].results[0], any(true))
	}
}

// room gives a list spare capacity, with something in it.
func room[T any](list []T, spare T) []T {
	return append(append(make([]T, 0, len(list)+2), list...), spare, spare)[:len(list)]
}

func roomyCond(c api.Cond) api.Cond {
	c.Kids = room(c.Kids, api.Cond{Op: api.CLess, Name: "spare"})
	for i, kid := range c.Kids {
		c.Kids[i] = roomyCond(kid)
	}
	return c
}

func roomyPlan(p api.Plan) api.Plan {
	spare := api.Corner{At: 399, Value: 7}
	p.Current, p.Waves, p.Aims = room(p.Current, spare), room(p.Waves, api.Wave{Coil: "spare"}), room(p.Aims, api.Aim{At: 399})
	p.Bounds, p.Rules = room(p.Bounds, api.Bound{Kind: 1}), room(p.Rules, api.Rule{Name: "spare"})
	for i := range p.Waves {
		p.Waves[i].Corners = room(p.Waves[i].Corners, spare)
	}
	for i := range p.Rules {
		p.Rules[i].When = roomyCond(p.Rules[i].When)
	}
	return p
}

// roomy returns a copy of arguments in which all lists have room.
func roomy(a args) args {
	a.p, a.l, a.day = roomyPlan(a.p), room(a.l, api.Corner{At: 400}), room(a.day, api.Request{Shot: "spare"})
	for i := range a.day {
		a.day[i].Slots = room(a.day[i].Slots, 63)
	}
	a.slots, a.requests, a.cover = room(a.slots, 63), room(a.requests, 63), room(a.cover, 63)
	a.m.Coils, a.m.Shells, a.m.Limits, a.m.Sensors = room(a.m.Coils, api.Coil{Name: "spare"}), room(a.m.Shells, api.Shell{R: 99}), room(a.m.Limits, api.Point{R: 99}), room(a.m.Sensors, api.Sensor{Name: "spare"})
	a.s.C = api.Currents{Coils: room(a.s.C.Coils, 99), Shells: room(a.s.C.Shells, 99), Plasma: room(a.s.C.Plasma, 99)}
	a.s.Heat, a.s.Tripped = room(a.s.Heat, 99), room(a.s.Tripped, true)
	return a
}

// lists returns all slices in a value, with their spare capacity, the inner ones first.
func lists(v reflect.Value) []reflect.Value {
	var l []reflect.Value
	switch v.Kind() {
	case reflect.Slice:
		whole := v.Slice(0, v.Cap())
		for i := range whole.Len() {
			l = append(l, lists(whole.Index(i))...)
		}
		return append(l, whole)
	case reflect.Struct:
		for i := range v.NumField() {
			l = append(l, lists(v.Field(i))...)
		}
	}
	return l
}

// memory returns what is in the lists of arguments.
func memory(a args) string {
	var text strings.Builder
	for _, list := range lists(reflect.ValueOf(a)) {
		fmt.Fprintln(&text, list)
	}
	return text.String()
}

// overwrite spoils the lists of a result, also in their spare capacity.
func overwrite(result any) {
	for _, list := range lists(reflect.ValueOf(result)) {
		for i := range list.Len() {
			list.Index(i).SetZero()
		}
	}
}

// R4, R7, P9.1: arguments stay as they are, results are new memory, and a call again gives the same
func TestNewMemory(t *testing.T) {
	r := rand.New(rand.NewSource(15))
	for range 200 {
		a := roomy(someArgs(r))
		before := memory(a)
		first, again := all(t, a), all(t, a)
		if !reflect.DeepEqual(first, again) {
			t.Errorf("a call again gives %v, not %v", again, first)
		}
		for _, o := range again {
			for _, result := range o.results {
				overwrite(result)
			}
		}
		if memory(a) != before {
			t.Error("a call has changed its arguments, or kept them in its results")
		}
		if third := all(t, a); !reflect.DeepEqual(first, third) {
			t.Errorf("after the results were overwritten, a call gives %v, not %v", third, first)
		}
	}
}

// R4: no two lists of a result share memory
func TestListsApart(t *testing.T) {
	r := rand.New(rand.NewSource(16))
	for range 200 {
		for name, o := range all(t, someArgs(r)) {
			checkApart(t, name, o.results)
		}
	}
}

// checkApart looks for memory that two lists of results have in common, as far as their capacities go.
func checkApart(t *testing.T, name string, results []any) {
	t.Helper()
	type part struct{ from, to uintptr }
	var parts []part
	for _, result := range results {
		for _, list := range lists(reflect.ValueOf(result)) {
			if list.Len() > 0 {
				from := list.Pointer()
				parts = append(parts, part{from, from + uintptr(list.Len())*list.Type().Elem().Size()})
			}
		}
	}
	slices.SortFunc(parts, func(a, b part) int { return int(a.from) - int(b.from) })
	for i := 1; i < len(parts); i++ {
		if parts[i].from < parts[i-1].to {
			t.Errorf("two lists of %s share memory", name)
		}
	}
}

// R4: a nil list and an empty one are the same
func TestNilAndEmpty(t *testing.T) {
	m, p, s := bare()
	a := args{m: m, p: p, s: s, l: corners(0, 0), text: bareText, a: "bob", b: "eve", day: day(nil), slots: []int{-1}}
	b := a
	b.m.Coils, b.m.Shells, b.m.Sensors = []api.Coil{}, []api.Shell{}, []api.Sensor{}
	b.s.C.Coils, b.s.C.Shells, b.s.Heat, b.s.Tripped = []int{}, []int{}, []int{}, []bool{}
	b.p.Waves, b.p.Aims, b.p.Bounds, b.p.Rules = []api.Wave{}, []api.Aim{}, []api.Bound{}, []api.Rule{}
	b.day, b.requests, b.cover = day([]int{}), []int{}, []int{}
	outcomes := all(t, a)
	if first, second := fmt.Sprint(outcomes), fmt.Sprint(all(t, b)); first != second {
		t.Errorf("of nil %v, of empty lists %v", first, second)
	}
	for name, o := range outcomes {
		same(t, name+" of empty lists", o.e, api.OK)
	}
	same(t, "ValidCorners of an empty list", plan.ValidCorners([]api.Corner{}), false)
	same(t, "Proved of nil", outcomes["Proved"].results[0], any(true))
}
