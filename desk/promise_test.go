package desk_test

import (
	"fmt"
	"math/rand"
	"reflect"
	"slices"
	"testing"

	"shotdesk/api"
	"shotdesk/desk"
	"shotdesk/equil"
	"shotdesk/machine"
	"shotdesk/shape"
)

// P10.3: behind a tick whose order is not the fall, and in which no push strikes, no coil is tripped
func TestShield(t *testing.T) {
	r := rand.New(rand.NewSource(8))
	cases := map[string]int{}
	for range 1500 {
		a := someTrial(r)
		h := a.fly(t)
		l := states(t, a.m, a.s, h)
		for i, k := range h.Ticks {
			tripped := slices.Contains(l[i+1].Tripped, true)
			pushed := slices.ContainsFunc(a.s.Pushes, func(p api.Push) bool { return p.At == i })
			switch {
			case tripped && k.Order.Share >= 0 && !pushed:
				t.Errorf("a coil is tripped behind the tick %d with the order %v", i, k.Order)
			case tripped:
				cases["tripped"]++
			case k.Order.Share >= 0 && k.Order.Share < 8:
				cases["a share"]++
			}
		}
	}
	enough(t, cases, 50, "tripped", "a share")
}

// P10.3: what the shield lets through trips no coil, but a push may
func TestShieldAndPush(t *testing.T) {
	m, p := hot()
	p.Waves, p.Ticks = []api.Wave{{Coil: "a", Corners: corners(0, 0, 4, 400)}}, 5
	trips := func(s api.Scene) []int {
		t.Helper()
		return column(states(t, m, s, fly(t, m, idle(m), s, p, begun(t, m))), func(s api.State) int { return len(slices.DeleteFunc(s.Tripped, func(x bool) bool { return !x })) })
	}
	// 300 amperes, and even 200 for another tick, are too much
	h := fly(t, m, idle(m), api.Scene{}, p, begun(t, m))
	gives(t, "shares", shares(h), []int{8, 8, -1, 8})
	gives(t, "currents", coils(states(t, m, api.Scene{}, h)), []int{0, 100, 200, 100, 0})
	gives(t, "trips", trips(api.Scene{}), []int{0, 0, 0, 0, 0})
	// with 100 amperes, the coil heats by 6 in a tick, but with 200 by 36
	p.Waves, p.Ticks = []api.Wave{{Coil: "a", Corners: corners(0, 0, 1, 100)}}, 7
	gives(t, "trips", trips(api.Scene{}), []int{0, 0, 0, 0, 0, 0, 0, 0})
	s := api.Scene{Pushes: []api.Push{{At: 5, Change: 100}}}
	gives(t, "trips behind a push", trips(s), []int{0, 0, 0, 0, 0, 0, 1, 1})
	gives(t, "shares with a push", shares(fly(t, m, idle(m), s, p, begun(t, m))), []int{8, 8, 8, 8, 8, 8, -1})
}

// P10.4: every box that was acted on is proved
func TestProvedBoxes(t *testing.T) {
	r := rand.New(rand.NewSource(9))
	known := 0
	for range 400 {
		a := someTrial(r)
		h := a.fly(t)
		is(t, "Rejudge", -1)(desk.Rejudge(a.m, a.s, h))
		l := states(t, a.m, a.s, h)
		for i, k := range h.Ticks {
			if k.Known {
				known++
				same(t, "Judge", equil.Judge(a.m, l[i].C, machine.Total(l[i].C), k.Box), true)
			} else {
				gives(t, "what is not known", []any{len(k.Box), k.Shape}, []any{0, api.Shape{}})
			}
		}
	}
	enough(t, map[string]int{"known": known}, 300, "known")
}

// P10.4: what sensors read moves nothing but by rules
func TestReadingsMoveNothing(t *testing.T) {
	r := rand.New(rand.NewSource(10))
	other := 0
	for range 200 {
		a := someTrial(r)
		a.p.Rules = nil
		b := a
		b.s.Seed, b.s.Faults = a.s.Seed+1, nil
		x, y := a.fly(t), b.fly(t)
		if !equal(x, y) {
			other++
		}
		for _, h := range []api.Shot{x, y} {
			for i := range h.Ticks {
				h.Ticks[i].Readings, h.Ticks[i].Blame = nil, 0
			}
		}
		gives(t, "a shot with other readings", x, y)
	}
	enough(t, map[string]int{"others": other}, 50, "others")
}

// P10.4: goals of which the same is proved make the same wish
func TestSameErrorsSameWish(t *testing.T) {
	p := demo()
	p.Ticks = 2
	wish := func(r, z int) []int {
		t.Helper()
		p.Aims = []api.Aim{{At: 1, Goal: api.Goal{R: r, Z: z}}}
		h := fly(t, toy(), keen(), api.Scene{}, p, begun(t, toy()))
		same(t, "the radius", h.Ticks[1].Shape.Radius, sp(11000, 11500))
		same(t, "the height", h.Ticks[1].Shape.Height, sp(-1100, -800))
		return h.Ticks[1].Wish
	}
	p.Aims = nil
	// nothing is proved of an error that holds 0
	plain := fly(t, toy(), keen(), api.Scene{}, p, begun(t, toy())).Ticks[1].Wish
	for _, goal := range [][2]int{{11000, -800}, {11500, -1100}, {11250, -900}, {11000, -1100}} {
		gives(t, "a goal in the middle", wish(goal[0], goal[1]), plain)
	}
	// 100 are proved of either error, so that the sums are 100, too
	gives(t, "a goal that is farther in R", wish(11600, -900), []int{plain[0] + 3, plain[1] - 2})
	gives(t, "a goal that is farther in Z", wish(11300, -700), []int{plain[0] - 1, plain[1] + 2})
}

// P10.8: the mode never falls from MSoft on, and behind MGas there is no plasma
func TestModesOfShots(t *testing.T) {
	r := rand.New(rand.NewSource(11))
	cases := map[string]int{}
	for range 1500 {
		a := someTrial(r)
		h := a.fly(t)
		l := states(t, a.m, a.s, h)
		for i, k := range h.Ticks {
			if i > 0 {
				before := h.Ticks[i-1].Mode
				same(t, "a mode that falls", before >= api.MSoft && k.Mode < before, false)
				if before > k.Mode {
					cases["a warning that ends"]++
				}
				if before == api.MSoft && k.Mode > before {
					cases["a graver mode"]++
				}
			}
			if k.Mode >= api.MGas {
				cases["gas"]++
				same(t, "the plasma behind MGas", machine.Total(l[i+1].C), 0)
			}
		}
	}
	enough(t, cases, 20, "a warning that ends", "a graver mode", "gas")
}

// P10.8: what is kept or broken for sure is so for all whole distributions in the box
func TestSureStatements(t *testing.T) {
	r := rand.New(rand.NewSource(12))
	cases := map[string]int{}
	for range 1200 {
		a := someTrial(r)
		// without rules, bounds change nothing
		a.p.Rules, a.p.Bounds = nil, nil
		a.p.Bounds = someBounds(r, a.fly(t))
		h := a.fly(t)
		l := states(t, a.m, a.s, h)
		for i, k := range h.Ticks {
			if !k.Known {
				continue
			}
			for range 10 {
				j, there := someDistribution(r, k.Box, machine.Total(l[i].C))
				if !there {
					t.Fatalf("the box %v holds no distribution", k.Box)
				}
				checkKept(t, cases, a, l[i].C, k, j)
			}
		}
	}
	for kind := api.BRadius; kind <= api.BLift; kind++ {
		enough(t, cases, 30, fmt.Sprint("kind ", kind, " Yes"), fmt.Sprint("kind ", kind, " No"))
	}
}

// someBounds returns bounds near to what is known in a record.
func someBounds(r *rand.Rand, h api.Shot) []api.Bound {
	known := slices.DeleteFunc(slices.Clone(h.Ticks), func(k api.Tick) bool { return !k.Known })
	var l []api.Bound
	for kind := api.BRadius; len(known) > 0 && kind <= api.BLift; kind++ {
		a, _ := shape.Quantity(oneOf(r, known...).Shape, kind)
		width := r.Intn(2 + 2*(a.Hi-a.Lo))
		lo := a.Lo + around(r, 1+a.Hi-a.Lo)
		l = append(l, api.Bound{Kind: kind, Keep: sp(lo, lo+width)}, api.Bound{Kind: kind, Keep: sp(a.Lo-r.Intn(2), a.Hi+r.Intn(2))})
	}
	return l
}

// someDistribution returns random whole numbers in a box with a sum.
func someDistribution(r *rand.Rand, x []api.Span, total int) ([]int, bool) {
	j := make([]int, len(x))
	for i, a := range x {
		j[i] = a.Lo
		total -= a.Lo
	}
	for _, i := range r.Perm(len(x)) {
		more := min(total, x[i].Hi-x[i].Lo)
		if r.Intn(2) == 0 {
			more = r.Intn(more + 1)
		}
		j[i] += more
		total -= more
	}
	for i, a := range x {
		more := min(total, a.Hi-j[i])
		j[i] += more
		total -= more
	}
	return j, total == 0
}

// checkKept holds the sure ones of a tick's Kept against a distribution, exactly.
func checkKept(t *testing.T, cases map[string]int, a trial, c api.Currents, k api.Tick, j []int) {
	t.Helper()
	for i, b := range a.p.Bounds {
		if k.Kept[i] == api.Maybe {
			continue
		}
		n, d := quantity(a.m, c, b.Kind, j)
		inside := b.Keep.Lo*d <= n && n <= b.Keep.Hi*d
		cases[fmt.Sprint("kind ", b.Kind, " ", []string{"No", "Yes"}[k.Kept[i]])]++
		if inside != (k.Kept[i] == api.Yes) {
			t.Errorf("the bound %v is said to be %d, but %v has %d / %d", b, k.Kept[i], j, n, d)
		}
	}
}

// quantity returns what a bound of a kind is about, as a fraction, of a distribution.
func quantity(m api.Machine, c api.Currents, kind int, j []int) (n, d int) {
	total, r, z, lift, known := 0, 0, 0, 0, c
	known.Plasma = make([]int, len(j))
	var rs, zs []int
	limit := 0
	flux := func(p api.Point) int {
		sum, _ := machine.Flux(m, api.Currents{Coils: c.Coils, Shells: c.Shells, Plasma: j}, p)
		return sum
	}
	for i, p := range m.Limits {
		if f := flux(p); i == 0 || f > limit {
			limit = f
		}
	}
	for i, n := range j {
		p, _ := machine.Cell(m, i)
		radial, _, _ := machine.Field(m, known, p)
		total, r, z, lift = total+n, r+p.R*n, z+p.Z*n, lift-radial*n
		if flux(p) > limit {
			rs, zs = append(rs, p.R), append(zs, p.Z)
		}
	}
	switch kind {
	case api.BRadius:
		return 1000 * r, total
	case api.BHeight:
		return 1000 * z, total
	case api.BArea:
		return len(rs), 1
	case api.BTop:
		return slices.Max(zs), 1
	case api.BBottom:
		return slices.Min(zs), 1
	case api.BInner:
		return slices.Min(rs), 1
	case api.BOuter:
		return slices.Max(rs), 1
	}
	return lift, 1000000
}

// args are arguments for all functions.
type args struct {
	trial
	h, other api.Shot
	k        api.Tick
	t, rest  int
	name     string
	person   string
	key      uint64
	bytes    []byte
	text     string
	script   string
}

// someArgs returns random arguments that are valid, if the state does not have to wait.
func someArgs(t *testing.T, r *rand.Rand) args {
	a := args{trial: someTrial(r), t: r.Intn(400), rest: r.Intn(100), person: oneOf(r, "ann", "bob")}
	a.p.Ticks = 1 + r.Intn(8)
	a.h, a.name, a.key = a.fly(t), a.p.Name, keyOf(t, a.m, a.p, a.person)
	a.other, a.k = a.fly(t), oneOf(r, a.h.Ticks...)
	a.text = desk.FormatScene(a.m, a.s)
	d := opened(t, a.m, a.x)
	does(t, "File", d.File(a.p))
	turned(t, d, a.m, a.p, "eve", "cid")
	d.Fire(a.name, a.s)
	does(t, "Rest", d.Rest(a.rest))
	a.bytes = d.Bytes()
	a.script = "turn ann p\nfire " + a.name + "\n" + a.text + ".\nrest 5\nstate\nvoid p\n"
	return a
}

// outcome are the results of a call; e is OK for one that has no error.
type outcome struct {
	results []any
	e       api.Errno
}

func sure(results ...any) outcome { return outcome{results, api.OK} }

func first[T any](result T, e api.Errno) outcome { return outcome{[]any{result}, e} }

// atDesk makes all commands at a desk, and asks it for all that it has.
func atDesk(d *desk.Desk, a args, outcomes map[string]outcome, what string) {
	outcomes[what+"File"] = outcome{nil, d.File(a.p)}
	outcomes[what+"Turn"] = outcome{nil, d.Turn(a.person, a.name, a.key)}
	outcomes[what+"Turn again"] = outcome{nil, d.Turn("eve", a.name, a.key)}
	outcomes[what+"Fire"] = first(d.Fire(a.name, a.s))
	outcomes[what+"Rest"] = outcome{nil, d.Rest(a.rest)}
	outcomes[what+"State"], outcomes[what+"Plans"], outcomes[what+"Keys"] = sure(d.State()), sure(d.Plans()), sure(d.Keys(a.name))
	outcomes[what+"Void"] = outcome{nil, d.Void(a.name)}
	outcomes[what+"Shots"], outcomes[what+"its Lines"], outcomes[what+"Bytes"] = sure(d.Shots()), sure(d.Lines()), sure(d.Bytes())
}

// all calls everything.
func all(t *testing.T, a args) map[string]outcome {
	t.Helper()
	mode, tick := desk.Worst(a.h)
	outcomes := map[string]outcome{
		"ValidScene": sure(desk.ValidScene(a.m, a.s)), "FormatScene": sure(desk.FormatScene(a.m, a.s)), "ParseScene": first(desk.ParseScene(a.m, a.text)),
		"Signals": sure(desk.Signals(a.m, a.b, a.k, a.t)), "Fly": first(desk.Fly(a.m, a.x, a.s, a.p, a.b)), "States": first(desk.States(a.m, a.s, a.h)), "Differs": sure(desk.Differs(a.h, a.other)),
		"Replay": first(desk.Replay(a.m, a.x, a.s, a.h)), "Rejudge": first(desk.Rejudge(a.m, a.s, a.h)), "Other": first(desk.Other(a.m, a.x, a.s, a.h)), "Worst": sure(mode, tick), "Text": sure(desk.Text(a.h)),
		"Lines": first(desk.Lines(a.bytes)), "Script": first(desk.Script(a.m, a.x, a.script)),
	}
	d, e := desk.New(a.m, a.x)
	same(t, "New without a desk", (e == api.OK) == (d != nil), true)
	atDesk(d, a, outcomes, "a new desk's ")
	d, e = desk.Read(a.m, a.x, a.bytes)
	outcomes["Read"] = outcome{nil, e}
	same(t, "Read without a desk", (e == api.OK) == (d != nil), true)
	atDesk(d, a, outcomes, "a read desk's ")
	atDesk(&desk.Desk{}, a, outcomes, "an empty desk's ")
	for name, o := range outcomes {
		for _, result := range o.results {
			if v := reflect.ValueOf(result); o.e != api.OK && !alike(v, reflect.Zero(v.Type())) {
				t.Errorf("%s: %d comes with %v", name, o.e, result)
			}
		}
	}
	return outcomes
}

// anyNumber is often near to what counts.
func anyNumber(r *rand.Rand) int {
	list := append([]int{-1, 0, 1, 2, 17, 33, 63, 64, 400, 401, api.MaxAmp, api.MaxAmp + 1, 60001, lastTick, lastTick - 5, lastTick + 1, api.MaxValue, int(r.Uint64())}, wild...)
	return list[r.Intn(len(list))]
}

// numbers are places of numbers in arguments.
func numbers(a *args) []*int {
	var l []*int
	var walk func(v reflect.Value)
	walk = func(v reflect.Value) {
		switch v.Kind() {
		case reflect.Int:
			// a truth is an int, too
			if n, is := v.Addr().Interface().(*int); is {
				l = append(l, n)
			}
		case reflect.Slice:
			for i := range v.Len() {
				walk(v.Index(i))
			}
		case reflect.Struct:
			for i := range v.NumField() {
				walk(v.Field(i))
			}
		}
	}
	for _, x := range []any{&a.m, &a.x, &a.s, &a.p, &a.b, &a.h, &a.k} {
		walk(reflect.ValueOf(x).Elem())
	}
	return append(l, &a.t, &a.rest)
}

// spoiled changes arguments, so that most are not valid any more.
func spoiled(r *rand.Rand, a args) args {
	list := numbers(&a)
	for range r.Intn(4) {
		*list[r.Intn(len(list))] = anyNumber(r)
	}
	switch r.Intn(10) {
	case 0:
		a.m.Limits, a.b.C.Shells, a.h.Begin.Tripped = nil, nil, nil
	case 1:
		a.p.Rules = append(a.p.Rules, api.Rule{Name: "last", When: endless(), For: 1, Mode: 1})
		a.h.Plan = a.p
	case 2:
		a.x.Gains, a.p.Current, a.b.Heat = nil, nil, nil
	case 3:
		a.name, a.person, a.p.Name = "", "A", ""
	case 4:
		a.h.Ticks = append(slices.Clone(a.h.Ticks), make([]api.Tick, r.Intn(500))...)
	case 5:
		a.s.Pushes = append(a.s.Pushes, make([]api.Push, r.Intn(50))...)
	}
	part := oneOf(r, "\n", " ", "0", "|", ".\n", "\xff", "file\n", "")
	if cut := r.Intn(len(a.text) + 1); r.Intn(2) == 0 {
		a.text = a.text[:cut] + part + a.text[cut:]
	}
	if cut := r.Intn(len(a.script) + 1); r.Intn(2) == 0 {
		a.script = a.script[:cut] + part + a.script[cut:]
	}
	if cut := r.Intn(len(a.bytes) + 1); r.Intn(2) == 0 {
		a.bytes = []byte(string(a.bytes[:cut]) + part + string(a.bytes[cut:]))
	}
	return a
}

// endless is a condition that holds itself.
func endless() api.Cond {
	kids := make([]api.Cond, 2)
	for i := range kids {
		kids[i] = api.Cond{Op: api.CAnd, Kids: kids}
	}
	return kids[0]
}

// R1, R3, P10.1: no call panics, and errors come with zero values
func TestAnyArguments(t *testing.T) {
	r := rand.New(rand.NewSource(13))
	errors := map[api.Errno]int{}
	for range 1500 {
		for _, o := range all(t, spoiled(r, someArgs(t, r))) {
			errors[o.e]++
		}
	}
	all(t, args{})
	for _, e := range []api.Errno{api.OK, api.ErrInvalid, api.ErrSyntax, api.ErrRange, api.ErrNone, api.ErrName, api.ErrKey, api.ErrChain} {
		same(t, fmt.Sprint("the error ", e, " often enough"), errors[e] >= 50, true)
	}
}
