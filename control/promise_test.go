package control_test

import (
	"fmt"
	"math/rand"
	"reflect"
	"slices"
	"testing"

	"shotdesk/api"
	"shotdesk/circuit"
	"shotdesk/control"
	"shotdesk/machine"
	"shotdesk/span"
)

// alike returns another shape with the same proved errors for a goal.
func alike(r *rand.Rand, g api.Goal, s api.Shape) api.Shape {
	other := s
	for _, a := range spansOf(&other) {
		*a = sp(-r.Intn(9), r.Intn(9))
	}
	other.Radius, other.Height = again(r, g.R, s.Radius), again(r, g.Z, s.Height)
	return other
}

// again returns another span of which the number nearest to a goal is the same.
func again(r *rand.Rand, goal int, a api.Span) api.Span {
	switch {
	case a.Hi < goal:
		return sp(a.Hi-r.Intn(1000), a.Hi)
	case a.Lo > goal:
		return sp(a.Lo, a.Lo+r.Intn(1000))
	}
	return sp(goal-r.Intn(1000), goal+r.Intn(1000))
}

// P7.2: the controller knows of a shape what is proved of its errors, and nothing else
func TestProvedQuantitiesAlone(t *testing.T) {
	r := rand.New(rand.NewSource(8))
	cases := map[string]int{}
	for range 5000 {
		a := someArgs(r)
		other := alike(r, a.g, a.shape)
		memory, e := control.Remember(a.most, a.y, a.g, a.shape)
		if e != api.OK {
			t.Fatalf("Remember = %d", e)
		}
		is(t, "Remember of a like shape", memory)(control.Remember(a.most, a.y, a.g, other))
		wish, e := control.Wish(a.m, a.setup, a.y, a.g, a.shape)
		if e != api.OK {
			t.Fatalf("Wish = %d", e)
		}
		gives(t, "Wish of a like shape", wish...)(control.Wish(a.m, a.setup, a.y, a.g, other))
		if other != a.shape && slices.ContainsFunc(wish, func(n int) bool { return n != 0 }) {
			cases["like shapes with a wish"]++
		}
		nothing := seen(sp(a.g.R-r.Intn(9), a.g.R+r.Intn(9)), sp(a.g.Z-r.Intn(9), a.g.Z+r.Intn(9)))
		gives(t, "Wish of nothing proved", make([]int, len(a.m.Coils))...)(control.Wish(a.m, a.setup, api.Memory{}, a.g, nothing))
		is(t, "Remember of nothing proved", api.Memory{})(control.Remember(a.most, api.Memory{}, a.g, nothing))
	}
	enough(t, cases, 1000, "like shapes with a wish")
}

// checkKept holds a state behind a tick against a safety.
func checkKept(t *testing.T, m api.Machine, s api.State, b api.Safety) {
	t.Helper()
	if slices.Contains(s.Tripped, true) {
		t.Errorf("what the shield let through trips a coil: %v", s)
	}
	for _, n := range s.C.Shells {
		if n > b.Shell || -n > b.Shell {
			t.Errorf("what the shield let through brings a shell to %d, above %d", n, b.Shell)
		}
	}
	for i := range m.Coils {
		right, up, e := machine.Force(m, s.C, i)
		if e != api.OK || right > b.Force || -right > b.Force || up > b.Force || -up > b.Force {
			t.Errorf("what the shield let through is a force of %d, %d, %d, above %d, with %v", right, up, e, b.Force, s.C)
		}
	}
}

// P7.3, P7, P2: what the shield lets through breaks nothing, whatever plasma the box holds
func TestShield(t *testing.T) {
	r := rand.New(rand.NewSource(9))
	through := 0
	for range 4000 {
		m, s := some(r, 2)
		x := someBox(r, s, []int{0, 1, 3, 100000}[r.Intn(4)])
		wish := someWish(r, m)
		b := tight(r, m, s, wish, x)
		order, e := control.Let(m, s, wish, x, b)
		if e != api.OK || order.Share < 0 {
			continue
		}
		through++
		after, e := circuit.Step(m, s, api.Drive{Change: order.Change, Plasma: s.C.Plasma})
		if e != api.OK {
			t.Fatalf("Step = %d", e)
		}
		for _, j := range plasmas(r, x) {
			after.C.Plasma = j
			checkKept(t, m, after, b)
		}
	}
	if through < 1000 {
		t.Errorf("too few cases: %d", through)
	}
}

// plasmas returns all numbers that a small box holds, or some of a large one: those at its ends, and others.
func plasmas(r *rand.Rand, x []api.Span) [][]int {
	count := 1
	for _, a := range x {
		count = min(1000, count*(span.Width(a)+1))
	}
	if count < 1000 {
		return held(x)
	}
	var list [][]int
	for range 50 {
		var j []int
		for _, a := range x {
			j = append(j, []int{a.Lo, a.Hi, a.Lo + r.Intn(a.Hi-a.Lo+1)}[r.Intn(3)])
		}
		list = append(list, j)
	}
	return list
}

// P7.4
func TestMonotone(t *testing.T) {
	r := rand.New(rand.NewSource(10))
	cases := map[string]int{}
	for range 6000 {
		m, s := some(r, 3)
		x := someBox(r, s, 100000>>r.Intn(20))
		small := smaller(r, x)
		wish := someWish(r, m)
		b := tight(r, m, s, wish, x)
		truth, _ := control.Safe(m, s, wish, x, b)
		now, e := control.Safe(m, s, wish, small, b)
		if e != api.OK || truth != api.Maybe && now != truth {
			t.Errorf("Safe of %v is %d, and of %v in it %d, %d", x, truth, small, now, e)
		}
		order, _ := control.Let(m, s, wish, x, b)
		more, e := control.Let(m, s, wish, small, b)
		if e != api.OK || more.Share < order.Share {
			t.Errorf("Let of %v has the share %d, and of %v in it %d, %d", x, order.Share, small, more.Share, e)
		}
		if truth == api.Maybe && now != api.Maybe {
			cases["surer"]++
		}
		if more.Share > order.Share {
			cases["larger"]++
		}
		forces, _ := control.Forces(m, s.C, x)
		within, _ := control.Forces(m, s.C, small)
		for i := range forces {
			same(t, "a smaller box has a force within", span.Inside(within[i][0], forces[i][0]) && span.Inside(within[i][1], forces[i][1]), true)
		}
	}
	enough(t, cases, 200, "surer", "larger")
}

// P7.5
func TestParts(t *testing.T) {
	r := rand.New(rand.NewSource(11))
	for range 2000 {
		var wish []int
		for range r.Intn(20) {
			wish = append(wish, signed(r, r.Intn(api.MaxValue>>r.Intn(51)+1)))
		}
		before := make([]int, len(wish))
		for n := range 9 {
			part, e := control.Part(wish, n)
			if e != api.OK || len(part) != len(wish) {
				t.Fatalf("Part = %v, %d", part, e)
			}
			for i, whole := range wish {
				// towards 0, an eighth less leaves no more, and none goes the other way
				size, had, most := max(part[i], -part[i]), max(before[i], -before[i]), max(whole, -whole)
				if size > most || size < had || part[i]*sign(whole) < 0 || 8*size > n*most || 8*size+8 <= n*most {
					t.Errorf("%d eighths of %d are %d", n, whole, part[i])
				}
			}
			before = part
		}
		gives(t, "Part 8", wish...)(control.Part(wish, 8))
	}
}

func sign(n int) int {
	switch {
	case n > 0:
		return 1
	case n < 0:
		return -1
	}
	return 0
}

// P7.5
func TestLetOfNoWish(t *testing.T) {
	r := rand.New(rand.NewSource(12))
	shares := map[int]int{}
	for range 3000 {
		m, s := some(r, 2)
		x := someBox(r, s, 100000>>r.Intn(20))
		wish := make([]int, len(m.Coils))
		order, e := control.Let(m, s, wish, x, tight(r, m, s, wish, x))
		shares[order.Share]++
		if e != api.OK || order.Share != 8 && order.Share != -1 {
			t.Errorf("Let of nothing = %v, %d", order, e)
		}
	}
	if shares[8] < 300 || shares[-1] < 300 {
		t.Errorf("too few cases: %v", shares)
	}
}

// P7.6
func TestRoomAllAtOnce(t *testing.T) {
	r := rand.New(rand.NewSource(13))
	for range 2000 {
		m, s := some(r, 2)
		room, _ := control.Room(m, s)
		var change []int
		for _, a := range room {
			change = append(change, a.Lo+r.Intn(a.Hi-a.Lo+1))
		}
		gives[int](t, "Cut of what has room")(control.Cut(m, s, change))
		applied, e := circuit.Applied(m, s, change)
		for i, n := range applied {
			current := max(s.C.Coils[i], -s.C.Coils[i])
			if e != api.OK || n != change[i] && !s.Tripped[i] && current <= m.Coils[i].MaxCurrent {
				t.Errorf("the change %d in the room %v is applied as %d, %d", change[i], room[i], n, e)
			}
		}
	}
}

// someArgs returns random arguments for all functions.
func someArgs(r *rand.Rand) args {
	m, s := some(r, 3)
	a := args{
		m: m, s: s, c: someState(r, m).C, list: someWish(r, m), x: someBox(r, s, 100000>>r.Intn(20)),
		g: api.Goal{R: r.Intn(20001) - 10000, Z: r.Intn(20001) - 10000}, y: api.Memory{SumR: r.Intn(2001) - 1000, SumZ: r.Intn(2001) - 1000},
		b: api.Safety{Shell: r.Intn(100000), Force: r.Intn(1000000)}, n: r.Intn(9), most: r.Intn(2000), total: 1 + r.Intn(api.MaxAmp),
	}
	for _, place := range spansOf(&a.shape) {
		*place = sp(-r.Intn(10000), r.Intn(10000))
	}
	if r.Intn(2) == 0 {
		a.shape.Radius, a.shape.Height = sp(9000, 9000+r.Intn(1000)), sp(-9000-r.Intn(1000), -9000)
	}
	a.setup.Most = a.most
	for range m.Coils {
		a.setup.Gains = append(a.setup.Gains, api.Gain{R: r.Intn(2001) - 1000, Z: r.Intn(2001) - 1000, SumR: r.Intn(201) - 100, SumZ: r.Intn(201) - 100})
	}
	return a
}

// anyNumber is often near to what counts.
func anyNumber(r *rand.Rand) int {
	list := append([]int{-60001, -101, -1, 0, 1, 2, 8, 9, 60001, api.MaxAmp, api.MaxAmp + 1, lastTick, lastTick + 1, api.MaxValue, int(r.Uint64())}, wild...)
	return list[r.Intn(len(list))]
}

// spoiled puts any numbers into arguments, now and then.
func spoiled(r *rand.Rand, a args) args {
	numbers := []*int{
		&a.n, &a.most, &a.total, &a.b.Shell, &a.b.Force, &a.g.R, &a.g.Z, &a.y.SumR, &a.y.SumZ, &a.setup.Most, &a.s.Tick,
		&a.m.Grid.R, &a.m.Grid.NR, &a.m.Grid.NZ, &a.m.Grid.Step, &a.m.Limits[0].R, &a.x[0].Lo, &a.x[0].Hi,
	}
	for _, list := range [][]int{a.list, a.c.Coils, a.c.Shells, a.c.Plasma, a.s.C.Coils, a.s.C.Shells, a.s.C.Plasma, a.s.Heat} {
		for i := range list {
			numbers = append(numbers, &list[i])
		}
	}
	for _, place := range spansOf(&a.shape) {
		numbers = append(numbers, &place.Lo, &place.Hi)
	}
	for i := range a.m.Coils {
		coil := &a.m.Coils[i]
		numbers = append(numbers, &coil.R, &coil.Turns, &coil.MaxCurrent, &coil.MaxStep)
		numbers = append(numbers, gainsOf(&a.setup.Gains[i])...)
	}
	for range r.Intn(4) {
		*numbers[r.Intn(len(numbers))] = anyNumber(r)
	}
	switch r.Intn(12) {
	case 0:
		a.m.Limits = nil
	case 1:
		a.x = append(a.x, sp(anyNumber(r), anyNumber(r)))
	case 2:
		a.c, a.list, a.x, a.s.Heat = api.Currents{}, nil, nil, nil
	case 3:
		a.list = append(a.list, anyNumber(r))
	case 4:
		a.setup.Gains, a.s.Tripped = nil, nil
	}
	return a
}

// all calls everything, and returns all results.
func all(t *testing.T, a args) map[string][]any {
	t.Helper()
	results := map[string][]any{
		"ValidSetup": {control.ValidSetup(a.m, a.setup)}, "ValidSafety": {control.ValidSafety(a.b)},
	}
	for name, f := range functions() {
		list, e := f.call(a)
		checkZero(t, name, e, list)
		results[name] = append(list, e)
	}
	return results
}

// R1, R3, P7.1: no call panics, and errors come with zero values
func TestAnyArguments(t *testing.T) {
	r := rand.New(rand.NewSource(14))
	for range 4000 {
		all(t, spoiled(r, someArgs(r)))
	}
	all(t, args{})
}

// R1: all that is valid gives valid results
func TestValidResults(t *testing.T) {
	r := rand.New(rand.NewSource(15))
	for range 1000 {
		a := someArgs(r)
		for name, results := range all(t, a) {
			for _, result := range results {
				checkValid(t, name, a, result)
			}
		}
	}
}

func checkValid(t *testing.T, name string, a args, result any) {
	t.Helper()
	valid := true
	switch x := result.(type) {
	case api.Span:
		valid = span.Valid(x)
	case []api.Span:
		valid = !slices.ContainsFunc(x, func(s api.Span) bool { return !span.Valid(s) })
	case [][2]api.Span:
		valid = len(x) == len(a.m.Coils)
	case api.State:
		valid = circuit.ValidState(a.m, x)
	case api.Order:
		valid = len(x.Change) == len(a.m.Coils) && -1 <= x.Share && x.Share <= 8
	case api.Errno:
		valid = x == api.OK
	}
	if !valid {
		t.Errorf("%s = %v", name, result)
	}
}

// room gives a list spare capacity, with something in it.
func room[T any](list []T, spare T) []T {
	return append(append(make([]T, 0, len(list)+2), list...), spare, spare)[:len(list)]
}

func roomyCurrents(c api.Currents) api.Currents {
	return api.Currents{Coils: room(c.Coils, 99), Shells: room(c.Shells, 99), Plasma: room(c.Plasma, 99)}
}

// roomy returns a copy of arguments in which all lists have room.
func roomy(a args) args {
	a.m.Coils, a.m.Shells = room(a.m.Coils, api.Coil{Name: "spare"}), room(a.m.Shells, api.Shell{R: 99})
	a.m.Limits, a.m.Sensors = room(a.m.Limits, api.Point{R: 99}), room(a.m.Sensors, api.Sensor{Name: "spare"})
	a.c, a.s.C = roomyCurrents(a.c), roomyCurrents(a.s.C)
	a.s.Heat, a.s.Tripped = room(a.s.Heat, 99), room(a.s.Tripped, true)
	a.x, a.list, a.setup.Gains = room(a.x, sp(9, 99)), room(a.list, 99), room(a.setup.Gains, api.Gain{R: 99})
	return a
}

// lists returns all slices in a value, with their spare capacity.
func lists(v reflect.Value) []reflect.Value {
	switch v.Kind() {
	case reflect.Slice:
		return []reflect.Value{v.Slice(0, v.Cap())}
	case reflect.Struct:
		var l []reflect.Value
		for i := range v.NumField() {
			l = append(l, lists(v.Field(i))...)
		}
		return l
	}
	return nil
}

// memory returns what is in the lists of arguments.
func memory(a args) string {
	text := ""
	for _, list := range lists(reflect.ValueOf(a)) {
		text += fmt.Sprintln(list)
	}
	return text
}

// overwrite spoils the lists of a result one by one, also in their spare capacity, and checks that each stays as it is while the others change.
func overwrite(t *testing.T, name string, result any) {
	t.Helper()
	all := lists(reflect.ValueOf(result))
	for i, list := range all {
		var others []string
		for _, other := range all[i+1:] {
			others = append(others, fmt.Sprint(other))
		}
		for k := range list.Len() {
			list.Index(k).SetZero()
		}
		for k, other := range all[i+1:] {
			same(t, "another list of "+name, fmt.Sprint(other), others[k])
		}
	}
}

// R4, R7, P7.1: arguments stay as they are, results are new memory, and a call again gives the same
func TestNewMemory(t *testing.T) {
	r := rand.New(rand.NewSource(16))
	for range 300 {
		a := roomy(someArgs(r))
		before := memory(a)
		first, again := all(t, a), all(t, a)
		if !reflect.DeepEqual(first, again) {
			t.Errorf("a call again gives %v, not %v", again, first)
		}
		for name, results := range again {
			for _, result := range results {
				overwrite(t, name, result)
			}
		}
		if memory(a) != before {
			t.Error("a call has changed its arguments, or kept them in its results")
		}
		if third := all(t, a); !reflect.DeepEqual(first, third) {
			t.Errorf("after the results were overwritten, a call gives %v, not %v", third, first)
		}
	}
}

// R4: a nil list and an empty one are the same
func TestNilAndEmpty(t *testing.T) {
	a := right()
	a.m.Coils, a.m.Shells, a.m.Sensors, a.c.Coils, a.c.Shells = nil, nil, nil, nil, nil
	a.s.C.Coils, a.s.C.Shells, a.s.Heat, a.s.Tripped, a.setup.Gains, a.list = nil, nil, nil, nil, nil, nil
	b := a
	b.m.Coils, b.m.Shells, b.m.Sensors, b.c.Coils, b.c.Shells = []api.Coil{}, []api.Shell{}, []api.Sensor{}, []int{}, []int{}
	b.s.C.Coils, b.s.C.Shells, b.s.Heat, b.s.Tripped = []int{}, []int{}, []int{}, []bool{}
	b.setup.Gains, b.list = []api.Gain{}, []int{}
	results := all(t, a)
	if first, second := fmt.Sprint(results), fmt.Sprint(all(t, b)); first != second {
		t.Errorf("of nil %v, of empty lists %v", first, second)
	}
	for name, list := range results {
		if e, ok := list[len(list)-1].(api.Errno); ok && e != api.OK {
			t.Errorf("%s of empty lists: %d", name, e)
		}
	}
}
