package sense_test

import (
	"math/rand"
	"reflect"
	"slices"
	"testing"

	"shotdesk/api"
	"shotdesk/machine"
	"shotdesk/sense"
)

// explained returns all that is told of readings, with new lists in each result.
func explained(m api.Machine, c api.Currents, r []api.Span, sensor, cell, current int) []any {
	var results []any
	add := func(x ...any) { results = append(results, x...) }
	add(sense.ValidReadings(m, r))
	background, e := sense.Background(m, c, sensor)
	add(background, e)
	response, e := sense.Response(m, sensor, cell)
	add(response, e)
	allowed, e := sense.Allowed(m, c, r, sensor, cell)
	add(allowed, e)
	agreeing, e := sense.Agreeing(m, c, r, cell, current)
	add(agreeing, e)
	candidates, e := sense.Candidates(m, c, r)
	add(candidates, e)
	whereR, whereZ, whereCurrent, e := sense.Where(m, candidates)
	add([]api.Span{whereR, whereZ, whereCurrent}, e)
	blame, e := sense.Accuse(m, c, r)
	add(blame, e)
	excluded, e := sense.Excluded(m, c, r)
	add(excluded, e)
	filament, e := sense.Filament(m, c, cell, current)
	add(filament, e)
	return results
}

// A call has the arguments for all functions.
type call struct {
	m                           api.Machine
	c                           api.Currents
	s                           api.Scene
	r                           []api.Span
	l                           []api.Candidate
	pairs                       []api.Pair
	text                        string
	tick, sensor, cell, current int
}

// outcome calls everything and returns all results.
func (x call) outcome() []any {
	results := explained(x.m, x.c, x.r, x.sensor, x.cell, x.current)
	add := func(x ...any) { results = append(results, x...) }
	add(sense.ValidFaults(x.m, x.s.Faults), sense.FormatFaults(x.m, x.s.Faults), sense.Broken(x.pairs))
	read, e := sense.Read(x.m, x.c, x.s, x.tick)
	add(read, e)
	r, z, current, e := sense.Where(x.m, x.l)
	add([]api.Span{r, z, current}, e)
	gains, e := sense.Calibrate(x.pairs)
	add(gains, e)
	for _, p := range x.pairs {
		gain, e := sense.Gain(p)
		add(gain, e)
	}
	faults, line, e := sense.ParseFaults(x.m, x.text)
	add(line)
	add(faults, e)
	return results
}

func someCall(r *rand.Rand) call {
	m, c := some(r, r.Intn(6))
	x := call{m: m, c: c, s: api.Scene{Seed: r.Uint32(), Faults: someFaults(r, m)}, tick: upTo(r, lastTick), cell: r.Intn(len(c.Plasma)), current: upTo(r, api.MaxAmp)}
	x.r = someReadings(r, m, c)
	if len(m.Sensors) > 0 {
		x.sensor = r.Intn(len(m.Sensors))
	}
	for range r.Intn(4) {
		x.l = append(x.l, api.Candidate{Cell: r.Intn(len(c.Plasma)), Current: sp(0, upTo(r, api.MaxAmp))})
		x.pairs = append(x.pairs, somePair(r))
	}
	x.text = sense.FormatFaults(m, x.s.Faults)
	return x
}

// anyInt is a number that may be anything, and is often near to what counts.
func anyInt(r *rand.Rand) int {
	switch r.Intn(4) {
	case 0:
		return wild[r.Intn(len(wild))]
	case 1:
		return int(r.Uint64())
	case 2:
		return r.Intn(300) - 150
	default:
		return r.Intn(5) - 1
	}
}

// spoiled puts any numbers into what a call takes, now and then.
func spoiled(r *rand.Rand, x call) call {
	now := func() bool { return r.Intn(8) == 0 }
	for _, n := range []*int{&x.tick, &x.sensor, &x.cell, &x.current, &x.m.Grid.NR, &x.m.Grid.R, &x.m.Grid.Step} {
		if now() {
			*n = anyInt(r)
		}
	}
	for _, list := range [][]int{x.c.Coils, x.c.Shells, x.c.Plasma} {
		if now() && len(list) > 0 {
			list[r.Intn(len(list))] = anyInt(r)
		}
	}
	if now() {
		x.c.Plasma = append(x.c.Plasma, 0)
	}
	if now() {
		x.m.Sensors = append(x.m.Sensors, api.Sensor{Name: "new", Kind: anyInt(r), R: anyInt(r), Error: anyInt(r)})
	}
	if now() {
		x.r = append(x.r, sp(anyInt(r), anyInt(r)))
	}
	if now() && len(x.r) > 0 {
		x.r[r.Intn(len(x.r))] = sp(anyInt(r), anyInt(r))
	}
	if now() {
		x.s.Faults = append(x.s.Faults, api.Fault{At: anyInt(r), Sensor: anyInt(r), Kind: anyInt(r), N: anyInt(r)})
	}
	if now() {
		x.l = append(x.l, api.Candidate{Cell: anyInt(r), Current: sp(anyInt(r), anyInt(r))})
	}
	if now() {
		x.pairs = append(x.pairs, pr(anyInt(r), anyInt(r), anyInt(r)))
	}
	if now() {
		b := []byte(x.text + "cut 0 s0\n")
		b[r.Intn(len(b))] = byte(r.Intn(256))
		x.text = string(b)
	}
	return x
}

// R1, R3, P4.1: no call panics, and errors come with zero values
func TestAnyArguments(t *testing.T) {
	r := rand.New(rand.NewSource(14))
	for range 3000 {
		checkErrors(t, spoiled(r, someCall(r)).outcome())
	}
	checkErrors(t, call{}.outcome())
}

// checkErrors holds each result against the error behind it.
func checkErrors(t *testing.T, results []any) {
	t.Helper()
	for i, x := range results {
		e, isErrno := x.(api.Errno)
		if !isErrno || e == api.OK {
			continue
		}
		v := reflect.ValueOf(results[i-1])
		if spans, are := results[i-1].([]api.Span); are && !slices.ContainsFunc(spans, func(a api.Span) bool { return a != api.Span{} }) {
			continue
		}
		if v.Kind() == reflect.Slice && v.Len() == 0 || v.IsZero() {
			continue
		}
		t.Errorf("the error %d comes with %v", e, results[i-1])
	}
}

// room gives a list spare capacity, with something in it.
func room[T any](list []T, spare T) []T {
	return append(append(make([]T, 0, len(list)+2), list...), spare, spare)[:len(list)]
}

func full[T any](list []T) []T { return list[:cap(list)] }

func overwrite[T any](list []T, by T) {
	for i := range full(list) {
		full(list)[i] = by
	}
}

func roomy(x call) call {
	x.m.Coils, x.m.Shells = room(x.m.Coils, api.Coil{Name: "spare"}), room(x.m.Shells, api.Shell{R: 99})
	x.m.Limits, x.m.Sensors = room(x.m.Limits, api.Point{R: 99}), room(x.m.Sensors, api.Sensor{Name: "spare"})
	x.c = api.Currents{Coils: room(x.c.Coils, 99), Shells: room(x.c.Shells, 99), Plasma: room(x.c.Plasma, 99)}
	x.s.Faults, x.r = room(x.s.Faults, api.Fault{At: 99}), room(x.r, sp(9, 99))
	x.l, x.pairs = room(x.l, api.Candidate{Cell: 99}), room(x.pairs, pr(9, 9, 99))
	return x
}

// whole returns the lists of a call with their spare capacity.
func whole(x call) []any {
	return []any{
		full(x.m.Coils), full(x.m.Shells), full(x.m.Limits), full(x.m.Sensors), full(x.c.Coils), full(x.c.Shells), full(x.c.Plasma),
		full(x.s.Faults), full(x.r), full(x.l), full(x.pairs),
	}
}

// spoil overwrites the lists of a result, also in their spare capacity.
func spoil(result any) {
	switch x := result.(type) {
	case []int:
		overwrite(x, -7)
	case []api.Span:
		overwrite(x, sp(-7, -7))
	case []api.Candidate:
		overwrite(x, api.Candidate{Cell: -7})
	case [][2]int:
		overwrite(x, [2]int{-7, -7})
	case []api.Fault:
		overwrite(x, api.Fault{At: -7})
	case api.Blame:
		overwrite(x.Lying, -7)
	case api.Currents:
		for _, list := range [][]int{x.Coils, x.Shells, x.Plasma} {
			overwrite(list, -7)
		}
	}
}

// R4, R7, P4.1: arguments stay as they are, results are new memory, and a call again gives the same
func TestNewMemory(t *testing.T) {
	r := rand.New(rand.NewSource(15))
	for range 200 {
		x := roomy(someCall(r))
		y := roomy(x)
		first, again := x.outcome(), x.outcome()
		if !reflect.DeepEqual(first, again) {
			t.Errorf("a call again gives %v, not %v", again, first)
		}
		for _, result := range again {
			spoil(result)
		}
		if !reflect.DeepEqual(whole(x), whole(y)) {
			t.Errorf("a call has changed %v to %v", y, x)
		}
		if third := x.outcome(); !reflect.DeepEqual(first, third) {
			t.Errorf("after the results were overwritten, a call gives %v, not %v", third, first)
		}
	}
}

// R4: no two lists of a result share memory
func TestListsApart(t *testing.T) {
	c, _ := sense.Filament(toy(), lit(), 1, 5)
	for i, list := range [][]int{c.Coils, c.Shells, c.Plasma} {
		overwrite(list, i)
	}
	for i, list := range [][]int{c.Coils, c.Shells, c.Plasma} {
		if slices.ContainsFunc(list, func(n int) bool { return n != i }) {
			t.Errorf("lists share memory: %v", c)
		}
	}
}

// R4: a nil list and an empty one are the same
func TestNilAndEmpty(t *testing.T) {
	m := bare()
	m.Coils, m.Shells, m.Sensors = []api.Coil{}, []api.Shell{}, []api.Sensor{}
	x := call{m: bare(), c: api.Currents{Plasma: []int{3}}}
	y := call{
		m: m, c: api.Currents{Coils: []int{}, Shells: []int{}, Plasma: []int{3}}, s: api.Scene{Faults: []api.Fault{}},
		r: []api.Span{}, l: []api.Candidate{}, pairs: []api.Pair{},
	}
	first, second := x.outcome(), y.outcome()
	for i := range first {
		a, b := reflect.ValueOf(first[i]), reflect.ValueOf(second[i])
		if f, is := first[i].(api.Currents); is {
			g := second[i].(api.Currents)
			if len(f.Coils)+len(f.Shells)+len(g.Coils)+len(g.Shells) != 0 || !slices.Equal(f.Plasma, g.Plasma) {
				t.Errorf("%v is not %v", f, g)
			}
			continue
		}
		if a.Kind() == reflect.Slice && a.Len() == 0 && b.Len() == 0 {
			continue
		}
		if !reflect.DeepEqual(first[i], second[i]) {
			t.Errorf("of nil %v, of empty lists %v", first[i], second[i])
		}
	}
}

// the greatest machine, and all of its readings
func TestGreatest(t *testing.T) {
	m := api.Machine{Name: "great", Limits: []api.Point{{}}, Grid: api.Grid{NR: 8, NZ: 8, Step: 1}}
	for i := range api.MaxCoils {
		m.Coils = append(m.Coils, api.Coil{Name: "c" + string(rune('a'+i)), Turns: 100, MaxCurrent: 1, MaxStep: 1, MaxHeat: 1})
	}
	for range api.MaxShells {
		m.Shells = append(m.Shells, api.Shell{Self: 1, Loss: 1})
	}
	for i := range api.MaxSensors {
		m.Sensors = append(m.Sensors, api.Sensor{Name: "s" + string(rune('a'+i)), Kind: 1 + i%3, R: i % 2, Error: 1e9})
	}
	for _, sign := range []int{1, -1} {
		c := machine.Quiet(m)
		for _, list := range [][]int{c.Coils, c.Shells} {
			for i := range list {
				list[i] = sign * api.MaxAmp
			}
		}
		c.Plasma[9] = api.MaxAmp
		r, e := sense.Read(m, c, api.Scene{Seed: 1}, 5)
		if e != api.OK || !sense.ValidReadings(m, r) {
			t.Fatalf("Read = %v, %d", r, e)
		}
		if b, e := sense.Accuse(m, c, r); len(b.Lying) != 0 || e != api.OK {
			t.Errorf("Accuse = %v, %d", b, e)
		}
		if l, e := sense.Excluded(m, c, r); len(l) != 0 || e != api.OK {
			t.Errorf("Excluded = %v, %d", l, e)
		}
		l, e := sense.Candidates(m, c, r)
		if !slices.ContainsFunc(l, func(x api.Candidate) bool { return x.Cell == 9 && x.Current.Hi == api.MaxAmp }) || e != api.OK {
			t.Errorf("Candidates = %v, %d", l, e)
		}
	}
}
