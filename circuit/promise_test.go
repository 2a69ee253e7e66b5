package circuit_test

import (
	"math/rand"
	"reflect"
	"slices"
	"testing"

	"shotdesk/api"
	"shotdesk/circuit"
	"shotdesk/machine"
)

// P3.1, P3.2: states that are returned are valid, and no coil goes beyond its limits
func TestValidAndWithinLimits(t *testing.T) {
	r := rand.New(rand.NewSource(9))
	for range 300 {
		m := some(r)
		s := someState(r, m)
		l, e := circuit.Run(m, s, someDrives(r, m, 30))
		if e != api.OK {
			t.Fatalf("Run: %d", e)
		}
		coast, _ := circuit.Coast(m, s, r.Intn(30))
		quenched, _ := circuit.Quench(m, s)
		for _, x := range append(l, coast, quenched) {
			if !circuit.ValidState(m, x) {
				t.Errorf("%v is not valid", x)
			}
		}
		for i, c := range m.Coils {
			for k := 1; k < len(l); k++ {
				before, after := l[k-1].C.Coils[i], l[k].C.Coils[i]
				if size(after-before) > c.MaxStep || size(after) > max(c.MaxCurrent, size(before)) {
					t.Errorf("the current %d of %v becomes %d", before, c, after)
				}
			}
		}
	}
}

func size(n int) int { return max(n, -n) }

// P3.3: a change at once, and in two ticks
func TestChangeInTwo(t *testing.T) {
	r := rand.New(rand.NewSource(10))
	for range 300 {
		m := some(r)
		s, _ := circuit.Begin(m)
		s.C.Plasma = someCells(r, m)
		var once, first, second []int
		for range m.Coils {
			n := signed(r, upTo(r, api.MaxAmp))
			part := n * r.Intn(1001) / 1000
			once, first, second = append(once, n), append(first, part), append(second, n-part)
		}
		all, _ := circuit.Induced(m, s, once, s.C.Plasma)
		a, _ := circuit.Induced(m, s, first, s.C.Plasma)
		b, _ := circuit.Induced(m, s, second, s.C.Plasma)
		for i := range m.Shells {
			if size(a[i]+b[i]-all[i]) > 2 {
				t.Errorf("%v at once induce %d, %v and %v in two ticks %d and %d", once, all[i], first, second, a[i], b[i])
			}
		}
	}
}

// P3.3: without changes shells go towards 0
func TestShellsForget(t *testing.T) {
	r := rand.New(rand.NewSource(11))
	for range 100 {
		m := some(r)
		s, _ := circuit.Begin(m)
		for i := range s.C.Shells {
			s.C.Shells[i] = signed(r, upTo(r, api.MaxAmp))
		}
		for range 40 {
			next, e := circuit.Coast(m, s, 1)
			for i, n := range next.C.Shells {
				if old := s.C.Shells[i]; e != api.OK || old*n < 0 || size(n) > max(0, size(old)-1) {
					t.Errorf("the shell's current %d becomes %d", old, n)
				}
			}
			s = next
		}
	}
}

// P3.4
func TestCutInTwo(t *testing.T) {
	r := rand.New(rand.NewSource(12))
	for range 100 {
		m := some(r)
		s, drives := someState(r, m), someDrives(r, m, 20)
		all, _ := circuit.Run(m, s, drives)
		at := r.Intn(len(drives) + 1)
		first, _ := circuit.Run(m, s, drives[:at])
		second, e := circuit.Run(m, first[at], drives[at:])
		if e != api.OK || !slices.EqualFunc(all, append(first, second[1:]...), circuit.Same) {
			t.Errorf("Run cut at %d is another one", at)
		}
		a, b := r.Intn(20), r.Intn(20)
		once, _ := circuit.Coast(m, s, a+b)
		half, _ := circuit.Coast(m, s, a)
		if twice, e := circuit.Coast(m, half, b); e != api.OK || !circuit.Same(once, twice) {
			t.Errorf("Coast by %d and by %d is not Coast by %d", a, b, a+b)
		}
	}
}

// P3.6
func TestMirror(t *testing.T) {
	r := rand.New(rand.NewSource(13))
	mirror := func(m api.Machine, s api.State) (api.Machine, api.State) {
		n, c, e := machine.Mirror(m, s.C)
		if e != api.OK {
			t.Fatalf("Mirror: %d", e)
		}
		s.C = c
		return n, s
	}
	for range 200 {
		m := some(r)
		s, d := someState(r, m), someDrive(r, m)
		after, _ := circuit.Step(m, s, d)
		_, want := mirror(m, after)
		_, mirroredDrive := mirror(m, api.State{C: api.Currents{Coils: s.C.Coils, Shells: s.C.Shells, Plasma: d.Plasma}})
		n, begin := mirror(m, s)
		got, e := circuit.Step(n, begin, api.Drive{Change: d.Change, Plasma: mirroredDrive.C.Plasma})
		if e != api.OK || !circuit.Same(got, want) {
			t.Errorf("the mirrored step is %v, %d, want %v", got, e, want)
		}
	}
}

// outcome calls everything and returns all results, with new lists in each.
func outcome(m api.Machine, s api.State, l []api.Drive, n int) []any {
	var results []any
	add := func(x ...any) { results = append(results, x...) }
	d := api.Drive{}
	if len(l) > 0 {
		d = l[0]
	}
	begin, e := circuit.Begin(m)
	add(circuit.ValidState(m, s), circuit.Same(s, begin), circuit.Digest(s), begin, e)
	applied, e := circuit.Applied(m, s, d.Change)
	add(applied, e)
	induced, e := circuit.Induced(m, s, d.Change, d.Plasma)
	add(induced, e)
	step, e := circuit.Step(m, s, d)
	add(step, e)
	run, e := circuit.Run(m, s, l)
	add(run, e)
	coast, e := circuit.Coast(m, s, n)
	add(coast, e)
	quench, e := circuit.Quench(m, s)
	add(quench, e)
	rest, e := circuit.Rest(m, s, d.Change)
	add(rest, e)
	settle, e := circuit.Settle(m, s)
	add(settle, e)
	swing, e := circuit.Swing(m, append(slices.Clone(run), s))
	add(swing, e)
	margin, e := circuit.Margin(m, s)
	add(margin, e)
	return results
}

// anyInt is a number that may be anything, and is often near to what counts.
func anyInt(r *rand.Rand) int {
	switch r.Intn(4) {
	case 0:
		return wild[r.Intn(len(wild))]
	case 1:
		return int(r.Uint64())
	case 2:
		return r.Intn(300) - 150
	default:
		return r.Intn(5) - 1
	}
}

func anyList(r *rand.Rand) []int {
	l := make([]int, r.Intn(20))
	for i := range l {
		l[i] = anyInt(r)
	}
	return l
}

// spoilSome puts any numbers into a list, or makes it shorter, now and then.
func spoilSome(r *rand.Rand, lists ...*[]int) {
	for _, l := range lists {
		switch {
		case r.Intn(8) == 0:
			*l = anyList(r)
		case r.Intn(8) == 0 && len(*l) > 0:
			(*l)[r.Intn(len(*l))] = anyInt(r)
		}
	}
}

// R1, R3, P3.1: no call panics, and errors come with zero values
func TestAnyArguments(t *testing.T) {
	r := rand.New(rand.NewSource(14))
	for range 3000 {
		m := some(r)
		s, l := someState(r, m), someDrives(r, m, r.Intn(3))
		if r.Intn(8) == 0 && len(m.Shells) > 0 {
			m.Shells[0] = api.Shell{R: anyInt(r), Z: anyInt(r), Self: anyInt(r), Loss: anyInt(r)}
		}
		if r.Intn(8) == 0 && len(m.Coils) > 0 {
			m.Coils[0].Turns, m.Coils[0].Cool, m.Coils[0].MaxStep = anyInt(r), anyInt(r), anyInt(r)
		}
		if r.Intn(8) == 0 {
			m.Grid.NR, m.Grid.NZ = anyInt(r), anyInt(r)
		}
		if r.Intn(8) == 0 {
			s.Tick = anyInt(r)
		}
		spoilSome(r, &s.C.Coils, &s.C.Shells, &s.C.Plasma, &s.Heat)
		for i := range l {
			spoilSome(r, &l[i].Change, &l[i].Plasma)
		}
		checkErrors(t, outcome(m, s, l, anyInt(r)))
	}
	checkErrors(t, outcome(api.Machine{}, api.State{}, nil, 0))
}

// checkErrors holds each result against the error behind it.
func checkErrors(t *testing.T, results []any) {
	t.Helper()
	for i, x := range results {
		e, isErrno := x.(api.Errno)
		if !isErrno || e == api.OK {
			continue
		}
		if v := reflect.ValueOf(results[i-1]); !v.IsZero() {
			t.Errorf("the error %d comes with %v", e, results[i-1])
		}
	}
}

// room gives a list spare capacity, with something in it.
func room[T any](list []T, spare T) []T {
	return append(append(make([]T, 0, len(list)+2), list...), spare, spare)[:len(list)]
}

func full[T any](list []T) []T { return list[:cap(list)] }

func overwrite[T any](list []T, by T) {
	for i := range full(list) {
		full(list)[i] = by
	}
}

func roomyState(s api.State) api.State {
	s.C = api.Currents{Coils: room(s.C.Coils, 99), Shells: room(s.C.Shells, 99), Plasma: room(s.C.Plasma, 99)}
	s.Heat, s.Tripped = room(s.Heat, 99), room(s.Tripped, true)
	return s
}

func roomyDrives(l []api.Drive) []api.Drive {
	list := make([]api.Drive, len(l))
	for i, d := range l {
		list[i] = api.Drive{Change: room(d.Change, 99), Plasma: room(d.Plasma, 99)}
	}
	return room(list, api.Drive{Change: []int{99}})
}

func roomyMachine(m api.Machine) api.Machine {
	m.Coils, m.Shells, m.Limits = room(m.Coils, api.Coil{Name: "spare"}), room(m.Shells, api.Shell{R: 99}), room(m.Limits, api.Point{R: 99})
	return m
}

// whole returns lists with their spare capacity.
func whole(m api.Machine, s api.State, l []api.Drive) []any {
	all := []any{full(m.Coils), full(m.Shells), full(m.Limits), full(s.C.Coils), full(s.C.Shells), full(s.C.Plasma), full(s.Heat), full(s.Tripped), full(l)}
	for _, d := range l {
		all = append(all, full(d.Change), full(d.Plasma))
	}
	return all
}

// spoil overwrites the lists of a result, also in their spare capacity.
func spoil(result any) {
	switch x := result.(type) {
	case []int:
		overwrite(x, -7)
	case api.State:
		for _, list := range [][]int{x.C.Coils, x.C.Shells, x.C.Plasma, x.Heat} {
			overwrite(list, -7)
		}
		overwrite(x.Tripped, true)
	case []api.State:
		for _, s := range x {
			spoil(s)
		}
		overwrite(x, api.State{Tick: -7})
	}
}

// R4, R7, P3.1: arguments stay as they are, results are new memory, and a call again gives the same
func TestNewMemory(t *testing.T) {
	r := rand.New(rand.NewSource(15))
	for range 60 {
		m := roomyMachine(some(r))
		s, l := roomyState(someState(r, m)), roomyDrives(someDrives(r, m, r.Intn(5)))
		m2, s2, l2 := roomyMachine(m), roomyState(s), roomyDrives(l)
		n := r.Intn(3)
		first, again := outcome(m, s, l, n), outcome(m, s, l, n)
		if !reflect.DeepEqual(first, again) {
			t.Errorf("a call again gives %v, not %v", again, first)
		}
		for _, result := range again {
			spoil(result)
		}
		if !reflect.DeepEqual(whole(m, s, l), whole(m2, s2, l2)) {
			t.Errorf("a call has changed %v, %v, %v to %v, %v, %v", m2, s2, l2, m, s, l)
		}
		if third := outcome(m, s, l, n); !reflect.DeepEqual(first, third) {
			t.Errorf("after the results were overwritten, a call gives %v, not %v", third, first)
		}
	}
}

// R4: no two lists of a result share memory
func TestListsApart(t *testing.T) {
	begin, _ := circuit.Begin(toy())
	step, _ := circuit.Step(toy(), busy(), push())
	none, _ := circuit.Coast(toy(), busy(), 0)
	coast, _ := circuit.Coast(toy(), busy(), 3)
	quench, _ := circuit.Quench(toy(), busy())
	run, _ := circuit.Run(toy(), busy(), []api.Drive{push(), push(), still(busy())})
	states := append(run, begin, step, none, coast, quench)
	lists := func(s api.State) [][]int { return [][]int{s.C.Coils, s.C.Shells, s.C.Plasma, s.Heat} }
	for i, s := range states {
		for k, list := range lists(s) {
			overwrite(list, 10*i+k)
		}
		overwrite(s.Tripped, i%2 == 0)
	}
	for i, s := range states {
		for k, list := range lists(s) {
			if slices.ContainsFunc(list, func(n int) bool { return n != 10*i+k }) {
				t.Errorf("the lists of the state %d share memory: %v", i, s)
			}
		}
		if slices.Contains(s.Tripped, i%2 != 0) {
			t.Errorf("the trips of the state %d share memory: %v", i, s)
		}
	}
}
