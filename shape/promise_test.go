package shape_test

import (
	"fmt"
	"math"
	"math/rand"
	"reflect"
	"slices"
	"testing"

	"shotdesk/api"
	"shotdesk/equil"
	"shotdesk/machine"
	"shotdesk/shape"
	"shotdesk/span"
)

// few returns a random machine with up to four cells, a total up to 40, and a small box.
func few(r *rand.Rand) (model, int, []api.Span) {
	m, c, total := some(r, 2, 40)
	if r.Intn(3) == 0 {
		m.Grid.NR, m.Grid.NZ = 1, 1+r.Intn(4)
		c.Plasma = make([]int, m.Grid.NZ)
	}
	return model{m, c}, total, someBox(r, len(c.Plasma), total, 3)
}

// tightBounds returns bounds of all kinds whose ends are near to those of a shape.
func tightBounds(r *rand.Rand, s api.Shape) []api.Bound {
	var l []api.Bound
	for kind := 1; kind <= 8; kind++ {
		a := *spansOf(&s)[kind]
		ends := []int{a.Lo - 1, a.Lo, a.Lo + 1, a.Hi - 1, a.Hi, a.Hi + 1}
		from, to := ends[r.Intn(6)], ends[r.Intn(6)]
		l = append(l, api.Bound{Kind: kind, Keep: sp(min(from, to), max(from, to))})
	}
	return l
}

// P6.2, P2: what is told of a box is so for all distributions in it
func TestSure(t *testing.T) {
	r := rand.New(rand.NewSource(9))
	seen := map[api.Truth]int{}
	for range 1500 {
		x, total, b := few(r)
		s, e := shape.Make(x.m, x.c, total, b)
		if e != api.OK {
			continue
		}
		l := tightBounds(r, s)
		kept, e := shape.Kept(l, s)
		if e != api.OK {
			t.Fatalf("Kept = %d", e)
		}
		for _, j := range distributions(total, b) {
			quantities := x.quantitiesOf(j)
			for kind, a := range spansOf(&s) {
				if !between(quantities[kind], *a) {
					t.Errorf("the quantity %d of %v is %v, and of %v %v", kind, j, quantities[kind], b, *a)
				}
			}
			for i, truth := range kept {
				seen[truth]++
				if keeps := between(quantities[l[i].Kind], l[i].Keep); truth == api.Yes && !keeps || truth == api.No && keeps {
					t.Errorf("%v is kept by %v: %d, but %v has %v", l[i], b, truth, j, quantities[l[i].Kind])
				}
			}
			checkOf(t, x, s, j)
		}
	}
	for _, truth := range []api.Truth{api.Yes, api.No, api.Maybe} {
		if seen[truth] < 1000 {
			t.Errorf("too few cases: %v", seen)
		}
	}
}

// checkOf holds what Of tells of a distribution against the shape of a box that holds it.
func checkOf(t *testing.T, x model, s api.Shape, j []int) {
	t.Helper()
	radius, height, area, e := shape.Of(x.m, x.c, j)
	if e != api.OK || !lies(sp(radius, radius), s.Radius) || !lies(sp(height, height), s.Height) || !lies(sp(area, area), s.Area) {
		t.Errorf("Of %v = %d, %d, %d, %d in %v", j, radius, height, area, e, s)
	}
}

// P6.3, 6.1: the ends of Weighted are the least and the greatest of all sums, and there are none where there is no distribution
func TestTight(t *testing.T) {
	r := rand.New(rand.NewSource(10))
	seen := map[string]int{}
	for range 2000 {
		x, total, b := few(r)
		w := make([]int, len(b))
		for i := range w {
			w[i] = r.Intn(7) - 3
		}
		var sums []int
		for _, j := range distributions(total, b) {
			n := 0
			for i := range w {
				n += w[i] * j[i]
			}
			sums = append(sums, n)
		}
		if len(sums) == 0 {
			none[api.Span](t, "Weighted", api.ErrNone)(shape.Weighted(x.m, total, b, w))
			seen["none"]++
			continue
		}
		if slices.Min(sums) < slices.Max(sums) {
			seen["several"]++
		}
		is(t, "Weighted", sp(slices.Min(sums), slices.Max(sums)))(shape.Weighted(x.m, total, b, w))
	}
	enough(t, seen, 50, "none", "several")
}

// smaller returns a box that lies in another one.
func smaller(r *rand.Rand, b []api.Span) []api.Span {
	b = slices.Clone(b)
	for i, a := range b {
		if r.Intn(2) == 0 {
			b[i].Lo += r.Intn(a.Hi - a.Lo + 1)
			b[i].Hi -= r.Intn(a.Hi - b[i].Lo + 1)
		}
	}
	return b
}

// P6.4
func TestMonotone(t *testing.T) {
	r := rand.New(rand.NewSource(11))
	seen := map[string]int{}
	for range 4000 {
		m, c, total := some(r, 3, api.MaxAmp)
		b := someBox(r, len(c.Plasma), total, total>>r.Intn(12))
		small := smaller(r, b)
		area, _ := shape.Area(m, c, b)
		if a, e := shape.Area(m, c, small); e != api.OK || !lies(a, area) {
			t.Errorf("Area of %v = %v, and of %v in it %v", b, area, small, a)
		}
		s, e := shape.Make(m, c, total, b)
		within, f := shape.Make(m, c, total, small)
		if e != api.OK || f != api.OK {
			// a cell that is surely inside stays so
			if _, _, _, _, inside := shape.Extent(m, c, small); e == api.OK && inside != api.OK {
				t.Errorf("Extent of %v in %v = %d", small, b, inside)
			}
			continue
		}
		seen["shapes"]++
		for kind, a := range spansOf(&within) {
			if !lies(*a, *spansOf(&s)[kind]) {
				t.Errorf("the quantity %d of %v in %v is %v, not in %v", kind, small, b, *a, *spansOf(&s)[kind])
			}
		}
		l := tightBounds(r, s)
		kept, _ := shape.Kept(l, s)
		now, _ := shape.Kept(l, within)
		for i, truth := range kept {
			if truth == api.Maybe {
				seen["maybe"]++
				continue
			}
			seen["sure"]++
			same(t, "Kept of a smaller box", now[i], truth)
		}
	}
	enough(t, seen, 300, "shapes", "maybe", "sure")
}

// P6.5
func TestMirror(t *testing.T) {
	r := rand.New(rand.NewSource(12))
	made := 0
	for range 3000 {
		m, c, total := some(r, 4, api.MaxAmp)
		b := someBox(r, len(c.Plasma), total, total>>r.Intn(12))
		n, d, _ := machine.Mirror(m, c)
		mirrored, e := equil.MirrorBox(m, b)
		if e != api.OK {
			t.Fatalf("MirrorBox of %v = %d", b, e)
		}
		area, _ := shape.Area(m, c, b)
		is(t, "Area of the mirrored", area)(shape.Area(n, d, mirrored))
		s, e := shape.Make(m, c, total, b)
		if e != api.OK {
			none[api.Shape](t, "Make of the mirrored", e)(shape.Make(n, d, total, mirrored))
			continue
		}
		made++
		s.Height, s.Lift = negative(s.Height), negative(s.Lift)
		s.Top, s.Bottom = negative(s.Bottom), negative(s.Top)
		is(t, "Make of the mirrored", s)(shape.Make(n, d, total, mirrored))
	}
	if made < 300 {
		t.Errorf("too few cases: %d", made)
	}
}

// someArgs returns random arguments for all functions.
func someArgs(r *rand.Rand) args {
	m, c, total := some(r, 3, api.MaxAmp)
	a := args{m: m, c: c, total: total, kind: 1 + r.Intn(8), l: someBounds(r), a: sample(), b: sample()}
	a.x = someBox(r, len(c.Plasma), total, total>>r.Intn(12))
	a.j = someNumbers(r, len(c.Plasma), total)
	for range a.j {
		a.w = append(a.w, r.Intn(2000000001)-1000000000)
	}
	for _, s := range []*api.Shape{&a.a, &a.b} {
		for _, place := range spansOf(s) {
			place.Lo -= r.Intn(1000)
			place.Hi += r.Intn(1000)
		}
	}
	return a
}

// anyNumber is often near to what counts.
func anyNumber(r *rand.Rand) int {
	list := append([]int{-101, -1, 0, 1, 2, 8, 9, 16, 17, api.MaxAmp, api.MaxAmp + 1, 1000000000, 1000000001, api.MaxValue, int(r.Uint64())}, wild...)
	return list[r.Intn(len(list))]
}

// spoiled puts any numbers into arguments, now and then.
func spoiled(r *rand.Rand, a args) args {
	numbers := []*int{&a.total, &a.kind, &a.m.Grid.R, &a.m.Grid.NR, &a.m.Grid.NZ, &a.m.Grid.Step, &a.m.Limits[0].R, &a.x[0].Lo, &a.x[0].Hi}
	for _, list := range [][]int{a.j, a.w, a.c.Coils, a.c.Shells, a.c.Plasma} {
		for i := range list {
			numbers = append(numbers, &list[i])
		}
	}
	for _, s := range []*api.Shape{&a.a, &a.b} {
		for kind := 1; kind <= 8; kind++ {
			numbers = append(numbers, &spansOf(s)[kind].Lo, &spansOf(s)[kind].Hi)
		}
	}
	for i := range a.l {
		numbers = append(numbers, &a.l[i].Kind, &a.l[i].Keep.Lo, &a.l[i].Keep.Hi)
	}
	for range r.Intn(4) {
		*numbers[r.Intn(len(numbers))] = anyNumber(r)
	}
	switch r.Intn(12) {
	case 0:
		a.m.Limits = nil
	case 1:
		a.x = append(a.x, sp(anyNumber(r), anyNumber(r)))
	case 2:
		a.c.Plasma, a.j, a.x, a.w = nil, nil, nil, nil
	case 3:
		a.l = append(a.l, api.Bound{Kind: anyNumber(r), Keep: sp(anyNumber(r), anyNumber(r))})
	}
	return a
}

// all calls everything, and returns all results.
func all(t *testing.T, a args) map[string][]any {
	t.Helper()
	text := shape.FormatBounds(a.l)
	l, line, e := shape.ParseBounds(text)
	results := map[string][]any{
		"ValidBounds": {shape.ValidBounds(a.l)}, "ValidShape": {shape.ValidShape(a.a)},
		"FormatBounds": {text}, "ParseBounds": {l, line, e},
	}
	for name, f := range functions() {
		list, e := f.call(a)
		checkZero(t, name, e, list)
		results[name] = append(list, e)
	}
	return results
}

// R1, R3, P6.1: no call panics, and errors come with zero values
func TestAnyArguments(t *testing.T) {
	r := rand.New(rand.NewSource(13))
	for range 3000 {
		all(t, spoiled(r, someArgs(r)))
	}
	all(t, args{})
	for range 3000 {
		text := []byte(sampleText)
		for range 1 + r.Intn(3) {
			text[r.Intn(len(text))] = byte(r.Intn(256))
		}
		shape.ParseBounds(string(text[:r.Intn(len(text)+1)]))
	}
	shape.Quantity(api.Shape{}, math.MinInt)
}

// R1: all that is valid gives valid results
func TestValidResults(t *testing.T) {
	r := rand.New(rand.NewSource(14))
	for range 1000 {
		a := someArgs(r)
		for name, results := range all(t, a) {
			for _, result := range results {
				if s, ok := result.(api.Span); ok && !span.Valid(s) {
					t.Errorf("%s = %v", name, s)
				}
				if s, ok := result.(api.Shape); ok && !shape.ValidShape(s) {
					t.Errorf("%s = %v", name, s)
				}
			}
		}
	}
}

// room gives a list spare capacity, with something in it.
func room[T any](list []T, spare T) []T {
	return append(append(make([]T, 0, len(list)+2), list...), spare, spare)[:len(list)]
}

// roomy returns a copy of arguments in which all lists have room.
func roomy(a args) args {
	a.m.Coils, a.m.Shells = room(a.m.Coils, api.Coil{Name: "spare"}), room(a.m.Shells, api.Shell{R: 99})
	a.m.Limits, a.m.Sensors = room(a.m.Limits, api.Point{R: 99}), room(a.m.Sensors, api.Sensor{Name: "spare"})
	a.c = api.Currents{Coils: room(a.c.Coils, 99), Shells: room(a.c.Shells, 99), Plasma: room(a.c.Plasma, 99)}
	a.x, a.w, a.j, a.l = room(a.x, sp(9, 99)), room(a.w, 99), room(a.j, 99), room(a.l, api.Bound{Kind: 99})
	return a
}

func whole[T any](list []T) []T { return list[:cap(list)] }

// memory returns the lists of arguments with their spare capacity.
func memory(a args) []any {
	return []any{
		whole(a.m.Coils), whole(a.m.Shells), whole(a.m.Limits), whole(a.m.Sensors),
		whole(a.c.Coils), whole(a.c.Shells), whole(a.c.Plasma), whole(a.x), whole(a.w), whole(a.j), whole(a.l),
	}
}

// overwrite spoils a list of a result, also in its spare capacity.
func overwrite(result any) {
	v := reflect.ValueOf(result)
	if v.Kind() != reflect.Slice {
		return
	}
	v = v.Slice(0, v.Cap())
	for i := range v.Len() {
		v.Index(i).SetZero()
	}
}

// R4, R7, P6.1: arguments stay as they are, results are new memory, and a call again gives the same
func TestNewMemory(t *testing.T) {
	r := rand.New(rand.NewSource(15))
	for range 300 {
		a := roomy(someArgs(r))
		before := memory(roomy(a))
		first, again := all(t, a), all(t, a)
		if !reflect.DeepEqual(first, again) {
			t.Errorf("a call again gives %v, not %v", again, first)
		}
		for _, results := range again {
			for _, result := range results {
				overwrite(result)
			}
		}
		if !reflect.DeepEqual(memory(a), before) {
			t.Error("a call has changed its arguments, or kept them in its results")
		}
		if third := all(t, a); !reflect.DeepEqual(first, third) {
			t.Errorf("after the results were overwritten, a call gives %v, not %v", third, first)
		}
	}
}

// R4: a nil list and an empty one are the same
func TestNilAndEmpty(t *testing.T) {
	m, c := row()
	m.Coils, m.Shells, m.Sensors, c.Coils, c.Shells = nil, nil, nil, nil, nil
	a := args{m: m, c: c, total: 100, x: box(60, 70, 10, 20, 15, 30), w: []int{3, -4, 5}, j: []int{65, 15, 20}, kind: 1}
	b := a
	b.m.Coils, b.m.Shells, b.m.Sensors, b.l = []api.Coil{}, []api.Shell{}, []api.Sensor{}, []api.Bound{}
	b.c.Coils, b.c.Shells = []int{}, []int{}
	if first, second := fmt.Sprint(all(t, a)), fmt.Sprint(all(t, b)); first != second {
		t.Errorf("of nil %v, of empty lists %v", first, second)
	}
	same(t, "ValidBounds", shape.ValidBounds([]api.Bound{}), true)
	parses(t, shape.FormatBounds([]api.Bound{}))
}
