package desk_test

import (
	"bytes"
	"fmt"
	"math/rand"
	"reflect"
	"slices"
	"strings"
	"testing"

	"shotdesk/api"
	"shotdesk/desk"
)

// roomy returns a copy of a value in which all lists have spare capacity, with something in it.
func roomy[T any](x T) T {
	v := reflect.ValueOf(&x).Elem()
	makeRoom(v)
	return x
}

func makeRoom(v reflect.Value) {
	switch v.Kind() {
	case reflect.Slice:
		list := reflect.MakeSlice(v.Type(), v.Len()+2, v.Len()+2)
		reflect.Copy(list, v)
		for i := range v.Len() {
			makeRoom(list.Index(i))
		}
		for i := v.Len(); i < list.Len(); i++ {
			spoil(list.Index(i))
		}
		v.Set(list.Slice(0, v.Len()))
	case reflect.Struct:
		for i := range v.NumField() {
			makeRoom(v.Field(i))
		}
	}
}

// spoil makes all numbers of a value strange.
func spoil(v reflect.Value) {
	switch v.Kind() {
	case reflect.Int:
		v.SetInt(-77)
	case reflect.String:
		v.SetString("spoiled")
	case reflect.Bool:
		v.SetBool(!v.Bool())
	case reflect.Uint8, reflect.Uint32, reflect.Uint64:
		v.SetUint(77)
	case reflect.Struct:
		for i := range v.NumField() {
			spoil(v.Field(i))
		}
	}
}

// lists returns all slices in a value, with their spare capacity, the inner ones first.
func lists(v reflect.Value) []reflect.Value {
	var l []reflect.Value
	switch v.Kind() {
	case reflect.Slice:
		whole := v.Slice(0, v.Cap())
		for i := range whole.Len() {
			l = append(l, lists(whole.Index(i))...)
		}
		return append(l, whole)
	case reflect.Struct:
		for i := range v.NumField() {
			l = append(l, lists(v.Field(i))...)
		}
	}
	return l
}

// overwrite spoils all lists of a value, also in their spare capacity.
func overwrite(x any) {
	for _, list := range lists(reflect.ValueOf(x)) {
		for i := range list.Len() {
			spoil(list.Index(i))
		}
	}
}

// parts are the arguments that hold lists.
func (a args) parts() []any { return []any{a.m, a.x, a.s, a.p, a.b, a.h, a.other, a.k, a.bytes} }

// memory returns what is in the lists of arguments.
func memory(a args) string {
	var text strings.Builder
	for _, part := range a.parts() {
		for _, list := range lists(reflect.ValueOf(part)) {
			fmt.Fprintln(&text, list)
		}
	}
	return text.String()
}

// R4, R7, P10.1: arguments stay as they are, results are new memory, and a call again gives the same
func TestNewMemory(t *testing.T) {
	r := rand.New(rand.NewSource(14))
	for range 60 {
		a := someArgs(t, r)
		a.m, a.x, a.s, a.p, a.b, a.h, a.other, a.k, a.bytes = roomy(a.m), roomy(a.x), roomy(a.s), roomy(a.p), roomy(a.b), roomy(a.h), roomy(a.other), roomy(a.k), roomy(a.bytes)
		before := memory(a)
		first, again := all(t, a), all(t, a)
		if !reflect.DeepEqual(first, again) {
			t.Errorf("a call again gives %v, not %v", again, first)
		}
		for _, o := range again {
			for _, result := range o.results {
				overwrite(result)
			}
		}
		if memory(a) != before {
			t.Error("a call has changed its arguments, or kept them in its results")
		}
		if third := all(t, a); !reflect.DeepEqual(first, third) {
			t.Errorf("after the results were overwritten, a call gives %v, not %v", third, first)
		}
	}
}

// R4: no two lists of a result share memory
func TestListsApart(t *testing.T) {
	r := rand.New(rand.NewSource(15))
	for range 60 {
		for name, o := range all(t, someArgs(t, r)) {
			for _, result := range o.results {
				checkApart(t, name, result)
			}
		}
	}
}

// checkApart looks for memory that two lists of a result have in common, as far as their capacities go.
func checkApart(t *testing.T, name string, result any) {
	t.Helper()
	type part struct{ from, to uintptr }
	var parts []part
	for _, list := range lists(reflect.ValueOf(result)) {
		if list.Len() > 0 {
			from := list.Pointer()
			parts = append(parts, part{from, from + uintptr(list.Len())*list.Type().Elem().Size()})
		}
	}
	slices.SortFunc(parts, func(a, b part) int { return int(a.from) - int(b.from) })
	for i := 1; i < len(parts); i++ {
		if parts[i].from < parts[i-1].to {
			t.Errorf("two lists of %s share memory", name)
		}
	}
}

// P10.1: a desk keeps nothing that the caller can change
func TestDeskKeepsNothing(t *testing.T) {
	m, x, s, p := roomy(toy()), roomy(keen()), roomy(stormy()), roomy(demo())
	other := demo()
	other.Name = "other"
	d, twin := opened(t, m, x), opened(t, toy(), keen())
	overwrite(m)
	overwrite(x)
	does(t, "File", d.File(p))
	overwrite(p)
	does(t, "File", twin.File(demo()))
	var shots []api.Shot
	for range 2 {
		for _, desk := range []*desk.Desk{d, twin} {
			turned(t, desk, toy(), demo(), "ann", "bob")
			h, e := desk.Fire("demo", s)
			does(t, "Fire", e)
			shots = append(shots, h)
		}
		gives(t, "Fire", shots[len(shots)-2], shots[len(shots)-1])
		overwrite(shots[len(shots)-2])
		for _, result := range []any{d.State(), d.Plans(), d.Keys("demo"), d.Lines(), d.Bytes()} {
			overwrite(result)
		}
		does(t, "File", d.File(other))
		does(t, "File", twin.File(other))
		turned(t, d, toy(), other, "eve")
		turned(t, twin, toy(), other, "eve")
		overwrite(d.Keys("other"))
		sameFacts(t, "the desk", tell(d), tell(twin))
	}
	all := d.Bytes()
	again, e := desk.Read(toy(), keen(), all)
	does(t, "Read", e)
	l, e := desk.Lines(all)
	does(t, "Lines", e)
	overwrite(all)
	gives(t, "Lines", l, twin.Lines())
	sameFacts(t, "the desk that was read", tell(again), tell(twin))
	same(t, "the bytes", bytes.Equal(all, twin.Bytes()), false)
}

// R4: a nil list and an empty one are the same
func TestNilAndEmpty(t *testing.T) {
	m := lonely()
	a := args{trial: trial{m: m, x: api.Setup{}, p: simple(3, 0, 0, 1, 64), b: api.State{C: api.Currents{Plasma: []int{5}}}}, name: "p", person: "ann", script: "shots\n", text: "seed 0\n"}
	a.h = a.fly(t)
	a.other, a.k = a.h, a.h.Ticks[1]
	b := a
	b.m.Coils, b.m.Shells, b.m.Sensors = []api.Coil{}, []api.Shell{}, []api.Sensor{}
	b.x.Gains, b.s = []api.Gain{}, api.Scene{Faults: []api.Fault{}, Pushes: []api.Push{}}
	b.p.Waves, b.p.Aims, b.p.Bounds, b.p.Rules = []api.Wave{}, []api.Aim{}, []api.Bound{}, []api.Rule{}
	b.b.C.Coils, b.b.C.Shells, b.b.Heat, b.b.Tripped = []int{}, []int{}, []int{}, []bool{}
	b.bytes = []byte{}
	b.h.Plan, b.h.Begin, b.h.End = b.p, b.b, roomy(a.h.End)
	b.h.Ticks = slices.Clone(a.h.Ticks)
	for i := range b.h.Ticks {
		k := &b.h.Ticks[i]
		k.Readings, k.Kept, k.Wish, k.Order.Change = []api.Span{}, []api.Truth{}, []int{}, []int{}
	}
	first, second := fmt.Sprint(all(t, a)), fmt.Sprint(all(t, b))
	same(t, "the outcomes of empty lists", second, first)
	none := a
	none.h.Ticks, none.h.Plan.Current, none.p.Current = nil, nil, nil
	empty := none
	empty.h.Ticks, empty.h.Plan.Current, empty.p.Current = []api.Tick{}, []api.Corner{}, []api.Corner{}
	same(t, "the outcomes of empty lists", fmt.Sprint(all(t, empty)), fmt.Sprint(all(t, none)))
}
