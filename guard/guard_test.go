package guard_test

import (
	"math"
	"math/rand"
	"reflect"
	"slices"
	"testing"

	"shotdesk/api"
	"shotdesk/guard"
)

const (
	lastTick  = 1000000000
	maxStreak = 1000000
	no        = api.No
	yes       = api.Yes
	maybe     = api.Maybe
)

// wild are numbers that are in no range.
var wild = []int{math.MinInt, -1 << 62, -api.MaxValue - 1, api.MaxValue + 1, 1 << 62, math.MaxInt}

// reserved are the words that are no names of signals and rules.
var reserved = []string{"and", "or", "not", "from", "to", "when", "for", "doubt", "mode", "clear", "warn", "soft", "gas", "off"}

func sp(lo, hi int) api.Span { return api.Span{Lo: lo, Hi: hi} }

func signal(name string, lo, hi int) api.Signal { return api.Signal{Name: name, Value: sp(lo, hi)} }

func less(name string, n int) api.Cond { return api.Cond{Op: api.CLess, Name: name, N: n} }

func more(name string, n int) api.Cond { return api.Cond{Op: api.CMore, Name: name, N: n} }

func from(name string, n, m int) api.Cond { return api.Cond{Op: api.CIs, Name: name, N: n, M: m} }

func and(kids ...api.Cond) api.Cond { return api.Cond{Op: api.CAnd, Kids: kids} }

func or(kids ...api.Cond) api.Cond { return api.Cond{Op: api.COr, Kids: kids} }

func not(kid api.Cond) api.Cond { return api.Cond{Op: api.CNot, Kids: []api.Cond{kid}} }

// high is a condition that is Yes, No or Maybe as tick says.
var high = more("a", 0)

// tick returns the signals of a tick in which high has a truth.
func tick(t api.Truth) []api.Signal {
	switch t {
	case yes:
		return []api.Signal{signal("a", 1, 1)}
	case no:
		return []api.Signal{signal("a", 0, 0)}
	}
	return []api.Signal{signal("a", 0, 1)}
}

// ticks returns a history in which high has the truths that the signs tell: y, n, or ? for Maybe.
func ticks(signs string) [][]api.Signal {
	var h [][]api.Signal
	for _, sign := range signs {
		h = append(h, tick(map[rune]api.Truth{'y': yes, 'n': no, '?': maybe}[sign]))
	}
	return h
}

// rule returns a rule that looks at high.
func rule(name string, n, doubt, mode, clear int) api.Rule {
	return api.Rule{Name: name, When: high, For: n, Doubt: doubt, Mode: mode, Clear: clear}
}

// drift is the chapter's rule.
func drift() api.Rule {
	return api.Rule{Name: "drift", When: or(more("height", 3000), more("blame", 2)), For: 2, Doubt: 5, Mode: api.MSoft}
}

const driftLine = "drift when height > 3000 or blame > 2 for 2 doubt 5 mode soft clear 0\n"

func same[T comparable](t *testing.T, call string, got, want T) {
	t.Helper()
	if got != want {
		t.Errorf("%s = %v, not %v", call, got, want)
	}
}

// alike takes a nil list and an empty one for the same.
func alike(a, b any) bool {
	v, w := reflect.ValueOf(a), reflect.ValueOf(b)
	if v.Kind() == reflect.Slice && v.Len() == 0 && w.Len() == 0 {
		return true
	}
	return reflect.DeepEqual(a, b)
}

// is returns a check for a result that comes without an error.
func is[T any](t *testing.T, call string, want T) func(T, api.Errno) {
	t.Helper()
	return func(got T, e api.Errno) {
		t.Helper()
		if e != api.OK || !alike(got, want) {
			t.Errorf("%s = %v, %d, not %v", call, got, e, want)
		}
	}
}

// fails returns a check for an error that comes alone.
func fails[T any](t *testing.T, call string, want api.Errno) func(T, api.Errno) {
	t.Helper()
	return func(got T, e api.Errno) {
		t.Helper()
		if e != want || !isZero(reflect.ValueOf(got)) {
			t.Errorf("%s = %v, %d, not %d", call, got, e, want)
		}
	}
}

// isZero takes an empty list for a zero value.
func isZero(v reflect.Value) bool {
	switch v.Kind() {
	case reflect.Slice:
		return v.Len() == 0
	case reflect.Struct:
		for i := range v.NumField() {
			if !isZero(v.Field(i)) {
				return false
			}
		}
		return true
	}
	return v.IsZero()
}

// enough checks that random cases met what they are to meet.
func enough(t *testing.T, cases map[string]int, least int, names ...string) {
	t.Helper()
	for _, name := range names {
		if cases[name] < least {
			t.Errorf("too few cases of %s: %d", name, cases[name])
		}
	}
}

// someNames are names for random conditions; x and y are often without a signal.
var someNames = []string{"a", "b", "c", "x", "y", "a_1", "run", "no", "abcdefghijklmnop"}

// someNumber is often small, and sometimes at an end.
func someNumber(r *rand.Rand) int {
	switch r.Intn(20) {
	case 0:
		return api.MaxValue
	case 1:
		return -api.MaxValue
	case 2:
		return r.Intn(2*api.MaxValue+1) - api.MaxValue
	}
	return r.Intn(9) - 4
}

func someSpan(r *rand.Rand) api.Span {
	n, m := someNumber(r), someNumber(r)
	return sp(min(n, m), max(n, m))
}

// someCond returns a random valid condition of at most so many nodes.
func someCond(r *rand.Rand, nodes int) api.Cond {
	name := someNames[r.Intn(len(someNames))]
	if nodes < 2 || r.Intn(6) == 0 {
		a := someSpan(r)
		return []api.Cond{less(name, a.Lo), more(name, a.Hi), from(name, a.Lo, a.Hi)}[r.Intn(3)]
	}
	if nodes == 2 || r.Intn(4) == 0 {
		return not(someCond(r, nodes-1))
	}
	count := 2 + r.Intn(min(nodes-2, 4))
	var kids []api.Cond
	for range count {
		kids = append(kids, someCond(r, (nodes-1)/count))
	}
	return api.Cond{Op: []int{api.CAnd, api.COr}[r.Intn(2)], Kids: kids}
}

// someSignals returns random signals, of which some have no valid span, and some a name that was there before.
func someSignals(r *rand.Rand) []api.Signal {
	var l []api.Signal
	for range r.Intn(8) {
		a := someSpan(r)
		if r.Intn(12) == 0 {
			a.Lo, a.Hi = a.Hi+1, a.Lo
		}
		l = append(l, api.Signal{Name: someNames[r.Intn(len(someNames))], Value: a})
	}
	return l
}

// someRules returns random valid rules.
func someRules(r *rand.Rand) []api.Rule {
	var l []api.Rule
	for _, i := range r.Perm(len(someNames))[:r.Intn(6)] {
		l = append(l, api.Rule{
			Name: someNames[i], When: someCond(r, 1+r.Intn(8)), For: 1 + r.Intn(4),
			Doubt: r.Intn(6), Mode: 1 + r.Intn(4), Clear: r.Intn(4),
		})
	}
	return l
}

// someGuard returns a random guard that is valid for rules.
func someGuard(r *rand.Rand, l []api.Rule) api.Guard {
	g := api.Guard{Mode: r.Intn(5), Gas: r.Intn(2) == 0}
	number := func() int { return []int{0, 1, 2, r.Intn(9), maxStreak - r.Intn(2)}[r.Intn(5)] }
	for range l {
		g.Watches = append(g.Watches, api.Watch{True: number(), Open: number(), False: number(), Fired: r.Intn(2) == 0})
	}
	return g
}

// nodes counts the nodes of a condition.
func nodes(c api.Cond) int {
	n := 1
	for _, kid := range c.Kids {
		n += nodes(kid)
	}
	return n
}

// someCond is not promised by the chapter: this holds the helper to what it says
func TestSomeCond(t *testing.T) {
	r := rand.New(rand.NewSource(1))
	cases := map[string]int{}
	for range 3000 {
		most := 1 + r.Intn(api.MaxNodes)
		c := someCond(r, most)
		n := nodes(c)
		if n > most || !guard.ValidCond(c) {
			t.Fatalf("%v has %d nodes, more than %d, or is not valid", c, n, most)
		}
		if n > 40 {
			cases["large"]++
		}
		cases[[]string{"", "and", "or", "not", "less", "more", "from"}[c.Op]]++
	}
	enough(t, cases, 100, "large", "and", "or", "not", "less", "more", "from")
}

// the chapter's example: two ticks that are sure, or five that are not excluded
func TestExample(t *testing.T) {
	l, line, e := guard.ParseRules(driftLine)
	if e != api.OK || line != 0 || !reflect.DeepEqual(l, []api.Rule{drift()}) {
		t.Fatalf("ParseRules = %v, %d, %d", l, line, e)
	}
	sure := []api.Signal{signal("height", 3001, 5000), signal("blame", 0, 0)}
	blamed := []api.Signal{signal("height", 0, 5000), signal("blame", 3, 3)}
	open := []api.Signal{signal("height", 0, 5000), signal("blame", 2, 2)}
	out := []api.Signal{signal("height", -100, 3000), signal("blame", 2, 2)}
	for _, c := range []struct {
		h    [][]api.Signal
		want int
	}{
		{[][]api.Signal{sure, sure}, 1}, {[][]api.Signal{out, sure, blamed}, 2}, {[][]api.Signal{sure, open, sure, sure}, 3},
		{[][]api.Signal{open, open, open, open, open}, 4}, {[][]api.Signal{open, sure, open, sure, open}, 4},
		{[][]api.Signal{nil, nil, open, sure, nil}, 4}, {[][]api.Signal{open, open, out, open, open, open, open, open}, 7},
	} {
		is(t, "First", c.want)(guard.First(l, c.h, api.MSoft))
	}
	fails[int](t, "First", api.ErrNone)(guard.First(l, [][]api.Signal{sure, out, sure, out, open, open, open, open, out}, api.MWarn))
}

// 8.2
func TestWord(t *testing.T) {
	for mode, want := range map[int]string{api.MRun: "run", api.MWarn: "warn", api.MSoft: "soft", api.MGas: "gas", api.MOff: "off", -1: "", 5: ""} {
		same(t, "Word", guard.Word(mode), want)
	}
	for _, mode := range wild {
		same(t, "Word", guard.Word(mode), "")
	}
}

// 8.3
func TestBegin(t *testing.T) {
	is(t, "Begin", api.Guard{Watches: []api.Watch{}, Gas: true})(guard.Begin(nil))
	three := []api.Rule{rule("a", 1, 0, 1, 0), rule("b", 2, 1, 4, 9), drift()}
	is(t, "Begin", api.Guard{Watches: make([]api.Watch, 3), Gas: true})(guard.Begin(three))
	fails[api.Guard](t, "Begin", api.ErrInvalid)(guard.Begin(append(slices.Clone(three), drift())))
}

// 8.4
func TestRefill(t *testing.T) {
	l := []api.Rule{rule("a", 1, 0, api.MGas, 0), drift()}
	used := api.Guard{Watches: []api.Watch{{True: 3, Open: 5, Fired: true}, {False: 2}}, Mode: api.MOff}
	is(t, "Refill", api.Guard{Watches: make([]api.Watch, 2), Gas: true})(guard.Refill(l, used))
	fails[api.Guard](t, "Refill", api.ErrInvalid)(guard.Refill(l[:1], used))
	fails[api.Guard](t, "Refill", api.ErrInvalid)(guard.Refill(append(l, drift()), used))
	used.Mode = 5
	fails[api.Guard](t, "Refill", api.ErrInvalid)(guard.Refill(l, used))
}
