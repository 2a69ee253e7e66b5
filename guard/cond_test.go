package guard_test

import (
	"math/rand"
	"slices"
	"strings"
	"testing"

	"shotdesk/api"
	"shotdesk/guard"
)

// chain is a comparison behind some words not.
func chain(nots int) api.Cond {
	c := high
	for range nots {
		c = not(c)
	}
	return c
}

func validConds() map[string]api.Cond {
	l := map[string]api.Cond{
		"less": less("a", 3), "more": more("a", -3), "from": from("a", -3, 3), "a point": from("a", 7, 7), "up to 0": from("a", -2, 0),
		"not": not(high), "and": and(high, high), "or": or(high, less("b", 2), high), "not not": not(not(high)),
		"and of and": and(and(high, high), high), "or of all": or(not(high), or(high, high), and(high, high)),
		"the least":    less("a", -api.MaxValue),
		"the greatest": more("a", api.MaxValue), "everything": from("a", -api.MaxValue, api.MaxValue),
		"63 nots": chain(63), "63 kids": or(slices.Repeat([]api.Cond{high}, 63)...),
		"64 nodes":   and(or(slices.Repeat([]api.Cond{high}, 30)...), not(and(slices.Repeat([]api.Cond{high}, 30)...))),
		"empty kids": {Op: api.CLess, Name: "a", Kids: []api.Cond{}},
	}
	for _, name := range []string{"a", "run", "ands", "nott", "no", "o", "fro", "tick", "offs", "of", "clear_", "soft1", "abcdefghijklmnop", "a_1", "z9__"} {
		l["the name "+name] = less(name, 0)
	}
	return l
}

// with returns a condition with a change.
func with(c api.Cond, change func(c *api.Cond)) api.Cond {
	change(&c)
	return c
}

// looped is a condition whose Kids hold themselves.
func looped() api.Cond {
	kids := make([]api.Cond, 2)
	kids[0], kids[1] = high, api.Cond{Op: api.COr, Kids: kids}
	return api.Cond{Op: api.CAnd, Kids: kids}
}

// doubled is a condition of 2^50 nodes that share their memory.
func doubled() api.Cond {
	c := high
	for range 50 {
		c = and(c, c)
	}
	return c
}

func invalidConds() map[string]api.Cond {
	l := map[string]api.Cond{
		"nothing": {}, "no operator": {Name: "a", N: 3}, "the operator 7": {Op: 7, Name: "a"}, "the operator -1": {Op: -1, Name: "a"},
		"and of none": and(), "or of none": or(), "and of one": and(high), "or of one": or(high), "not of none": {Op: api.CNot}, "not of two": {Op: api.CNot, Kids: []api.Cond{high, high}},
		"a nameless less": less("", 3), "a nameless more": more("", 3), "a nameless from": from("", 3, 4),
		"from the wrong way": from("a", 4, 3), "from above 0": with(less("a", 4), func(c *api.Cond) { c.Op = api.CIs }),
		"64 nots": chain(64), "64 kids": or(slices.Repeat([]api.Cond{high}, 64)...), "65 nodes": and(or(slices.Repeat([]api.Cond{high}, 31)...), not(and(slices.Repeat([]api.Cond{high}, 30)...))),
		"a million kids": and(slices.Repeat([]api.Cond{high}, 1000000)...), "a loop": looped(), "a chain without an end": endless(), "what is doubled": doubled(),
		"a deep wrong one": not(and(high, or(high, not(less("A", 1))))), "a late wrong one": and(high, high, less("a", api.MaxValue+1)), "an early wrong one": or(and(high), high),
	}
	for what, change := range map[string]func(c *api.Cond){
		"a name": func(c *api.Cond) { c.Name = "a" }, "an N": func(c *api.Cond) { c.N = 1 }, "an M": func(c *api.Cond) { c.M = 1 },
	} {
		l["and with "+what], l["or with "+what], l["not with "+what] = with(and(high, high), change), with(or(high, high), change), with(not(high), change)
	}
	comparisons := map[string]api.Cond{"less": less("a", 3), "more": more("a", 3), "from": from("a", 3, 4)}
	for what, c := range comparisons {
		l[what+" with a kid"] = with(c, func(c *api.Cond) { c.Kids = []api.Cond{high} })
		l[what+" with two kids"] = with(c, func(c *api.Cond) { c.Kids = []api.Cond{high, high} })
		for _, name := range append([]string{"A", "1a", "_a", "a-b", "a b", " a", "a ", "a\n", "(", "<", "ä", "abcdefghijklmnopq", strings.Repeat("a", 100000)}, reserved...) {
			l[what+" with the name "+name] = with(c, func(c *api.Cond) { c.Name = name })
		}
		for _, n := range wild {
			l[what+" with a wild N"] = with(c, func(c *api.Cond) { c.N = n })
			l[what+" with a wild M"] = with(c, func(c *api.Cond) { c.M = n })
		}
	}
	for _, m := range append([]int{-1, 1, 4}, wild...) {
		l["less with an M"], l["more with an M"] = with(less("a", 3), func(c *api.Cond) { c.M = m }), with(more("a", 3), func(c *api.Cond) { c.M = m })
	}
	return l
}

// endless is a not of itself.
func endless() api.Cond {
	kids := make([]api.Cond, 1)
	kids[0] = api.Cond{Op: api.CNot, Kids: kids}
	return kids[0]
}

// 8.1
func TestValidCond(t *testing.T) {
	for what, c := range validConds() {
		same(t, "ValidCond of "+what, guard.ValidCond(c), true)
	}
	for what, c := range invalidConds() {
		same(t, "ValidCond of "+what, guard.ValidCond(c), false)
		same(t, "ValidCond of not "+what, guard.ValidCond(not(c)), false)
		same(t, "ValidCond of a list with "+what, guard.ValidCond(or(high, c, high)), false)
	}
}

// 8.1, R5: what is not valid is Maybe, and has no names and no text
func TestInvalidCond(t *testing.T) {
	for what, c := range invalidConds() {
		for _, truth := range []api.Truth{yes, no} {
			same(t, "Eval of "+what, guard.Eval(c, tick(truth)), maybe)
			same(t, "Eval of or with "+what, guard.Eval(or(high, c), tick(truth)), maybe)
			same(t, "Eval of and with "+what, guard.Eval(and(high, c), tick(truth)), maybe)
		}
		same(t, "the number of Names of "+what, len(guard.Names(c)), 0)
		same(t, "FormatCond of "+what, guard.FormatCond(c), "")
		same(t, "FormatCond of not "+what, guard.FormatCond(not(c)), "")
	}
}

// 8.1
func TestComparisons(t *testing.T) {
	for _, c := range []struct {
		c      api.Cond
		lo, hi int
		want   api.Truth
	}{
		{less("a", 5), 1, 4, yes}, {less("a", 5), 4, 4, yes}, {less("a", 5), 1, 5, maybe}, {less("a", 5), 5, 5, no}, {less("a", 5), 5, 9, no},
		{less("a", 5), 4, 9, maybe}, {less("a", 5), 6, 9, no}, {less("a", -api.MaxValue), -api.MaxValue, api.MaxValue, no},
		{more("a", 5), 6, 9, yes}, {more("a", 5), 6, 6, yes}, {more("a", 5), 5, 9, maybe}, {more("a", 5), 5, 5, no}, {more("a", 5), 1, 5, no},
		{more("a", 5), 1, 6, maybe}, {more("a", 5), 1, 4, no}, {more("a", api.MaxValue), -api.MaxValue, api.MaxValue, no},
		{more("a", -api.MaxValue), 1 - api.MaxValue, api.MaxValue, yes}, {less("a", 0), 0, 0, no}, {more("a", 0), 0, 0, no},
		{from("a", 3, 5), 3, 5, yes}, {from("a", 3, 5), 4, 4, yes}, {from("a", 3, 5), 5, 6, maybe}, {from("a", 3, 5), 2, 3, maybe}, {from("a", 3, 5), 1, 9, maybe},
		{from("a", 3, 5), 6, 9, no}, {from("a", 3, 5), 0, 2, no}, {from("a", 4, 4), 4, 4, yes}, {from("a", 4, 4), 4, 5, maybe}, {from("a", -5, -3), -4, -3, yes}, {from("a", -5, -3), 3, 5, no},
		{from("a", -api.MaxValue, api.MaxValue), -api.MaxValue, api.MaxValue, yes},
		// what is not a valid span
		{less("a", 5), 2, 1, maybe}, {more("a", 5), 9, 8, maybe}, {from("a", 3, 5), 4, 3, maybe}, {less("a", 5), -api.MaxValue - 1, 0, maybe},
		{more("a", 5), 6, api.MaxValue + 1, maybe}, {from("a", 3, 5), 6, wild[5], maybe}, {less("a", 5), wild[0], wild[5], maybe}, {less("a", 5), 9, wild[5], maybe},
	} {
		l := []api.Signal{signal("a", c.lo, c.hi)}
		same(t, "Eval of "+guard.FormatCond(c.c), guard.Eval(c.c, l), c.want)
		same(t, "Eval of not "+guard.FormatCond(c.c), guard.Eval(not(c.c), l), []api.Truth{yes, no, maybe}[c.want])
	}
}

// 8.1, P2: a comparison is Yes if all numbers of the span are so, No if none is, otherwise Maybe
func TestComparisonsOfAllSmallSpans(t *testing.T) {
	const most = 4
	check := func(c api.Cond, holds func(n int) bool) {
		for lo := -most; lo <= most; lo++ {
			for hi := lo; hi <= most; hi++ {
				count := 0
				for n := lo; n <= hi; n++ {
					if holds(n) {
						count++
					}
				}
				want := maybe
				switch count {
				case 0:
					want = no
				case hi - lo + 1:
					want = yes
				}
				same(t, "Eval of "+guard.FormatCond(c), guard.Eval(c, []api.Signal{signal("a", lo, hi)}), want)
			}
		}
	}
	for n := -most; n <= most; n++ {
		check(less("a", n), func(k int) bool { return k < n })
		check(more("a", n), func(k int) bool { return k > n })
		for m := n; m <= most; m++ {
			check(from("a", n, m), func(k int) bool { return n <= k && k <= m })
		}
	}
}

// 8.1: of several signals with one name the first counts, whatever it is
func TestSignals(t *testing.T) {
	for _, c := range []struct {
		l    []api.Signal
		want api.Truth
	}{
		{nil, maybe}, {[]api.Signal{signal("b", 1, 1)}, maybe}, {[]api.Signal{signal("", 1, 1)}, maybe}, {[]api.Signal{signal("A", 1, 1)}, maybe}, {[]api.Signal{signal("a ", 1, 1)}, maybe},
		{[]api.Signal{signal("a", 1, 1), signal("a", 0, 0)}, yes}, {[]api.Signal{signal("a", 0, 0), signal("a", 1, 1)}, no},
		{[]api.Signal{signal("b", 0, 0), signal("a", 0, 1), signal("a", 1, 1)}, maybe}, {[]api.Signal{signal("a", 1, 0), signal("a", 1, 1)}, maybe},
		{[]api.Signal{signal("and", 1, 0), signal("a", 1, 1), signal("b", 5, 3)}, yes},
	} {
		same(t, "Eval", guard.Eval(high, c.l), c.want)
	}
}

// 8.1: all truths of two and of three parts
func TestJoined(t *testing.T) {
	all := []api.Truth{no, yes, maybe}
	names := []string{"a", "b", "c"}
	var kids []api.Cond
	for _, name := range names {
		kids = append(kids, more(name, 0))
	}
	for i := range 27 {
		var l []api.Signal
		count := map[api.Truth]int{}
		for k, name := range names {
			truth := all[[]int{i % 3, i / 3 % 3, i / 9}[k]]
			count[truth]++
			s := tick(truth)[0]
			s.Name = name
			l = append(l, s)
		}
		both, either := yes, no
		switch {
		case count[no] > 0:
			both = no
		case count[maybe] > 0:
			both = maybe
		}
		switch {
		case count[yes] > 0:
			either = yes
		case count[maybe] > 0:
			either = maybe
		}
		same(t, "Eval of and", guard.Eval(and(kids...), l), both)
		same(t, "Eval of or", guard.Eval(or(kids...), l), either)
		same(t, "Eval of and in and", guard.Eval(and(kids[0], and(kids[1:]...)), l), both)
		same(t, "Eval of or in not", guard.Eval(not(or(kids...)), l), []api.Truth{yes, no, maybe}[either])
		same(t, "Eval of nots in and", guard.Eval(and(not(kids[0]), not(kids[1]), not(kids[2])), l), []api.Truth{yes, no, maybe}[either])
	}
	// a condition and its contrary need not be sure
	same(t, "Eval", guard.Eval(or(high, not(high)), tick(maybe)), maybe)
}

// 8.1
func TestNames(t *testing.T) {
	for _, c := range []struct {
		c    api.Cond
		want string
	}{
		{high, "a"}, {not(less("b", 1)), "b"}, {and(less("b", 1), more("a", 2)), "a b"}, {or(less("b", 1), from("b", 1, 2), more("b", 2)), "b"},
		{and(or(more("z", 1), not(less("y", 1))), less("a_", 3), and(more("z", 2), less("a1", 4), less("a", 5), less("aa", 6))), "a a1 a_ aa y z"},
		{not(or(less("tick", 1), more("run", 2))), "run tick"},
	} {
		same(t, "Names", strings.Join(guard.Names(c.c), " "), c.want)
	}
}

// 8.1: Names are those of a random condition, sorted, each once
func TestNamesOfMany(t *testing.T) {
	r := rand.New(rand.NewSource(2))
	for range 500 {
		c := someCond(r, 1+r.Intn(api.MaxNodes))
		var want []string
		for _, name := range someNames {
			if slices.Contains(strings.Fields(guard.FormatCond(c)), name) {
				want = append(want, name)
			}
		}
		slices.Sort(want)
		same(t, "Names", strings.Join(guard.Names(c), " "), strings.Join(want, " "))
	}
}

// modelTruth is the chapter's truth of a condition, by how many of the truths there are.
func modelTruth(c api.Cond, l []api.Signal) api.Truth {
	count := map[api.Truth]int{}
	for _, kid := range c.Kids {
		count[modelTruth(kid, l)]++
	}
	switch {
	case c.Op == api.CAnd && count[no] > 0, c.Op == api.COr && count[yes] == 0 && count[maybe] == 0, c.Op == api.CNot && count[yes] > 0:
		return no
	case c.Op <= api.CNot && count[maybe] > 0 && (c.Op != api.COr || count[yes] == 0):
		return maybe
	case c.Op <= api.CNot:
		return yes
	}
	for _, s := range l {
		if s.Name == c.Name {
			return modelComparison(c, s.Value)
		}
	}
	return maybe
}

func modelComparison(c api.Cond, a api.Span) api.Truth {
	lo, hi := c.N, c.M // the numbers with which the comparison holds
	switch c.Op {
	case api.CLess:
		lo, hi = -api.MaxValue-1, c.N-1
	case api.CMore:
		lo, hi = c.N+1, api.MaxValue+1
	}
	switch {
	case a.Lo > a.Hi || a.Lo < -api.MaxValue || a.Hi > api.MaxValue:
		return maybe
	case lo <= a.Lo && a.Hi <= hi:
		return yes
	case a.Hi < lo || hi < a.Lo:
		return no
	}
	return maybe
}

// 8.1
func TestEvalModel(t *testing.T) {
	r := rand.New(rand.NewSource(3))
	counts := map[api.Truth]int{}
	for range 20000 {
		c, l := someCond(r, 1+r.Intn(10)), someSignals(r)
		want := modelTruth(c, l)
		counts[want]++
		if got := guard.Eval(c, l); got != want {
			t.Errorf("Eval of %s with %v = %d, not %d", guard.FormatCond(c), l, got, want)
		}
	}
	if counts[yes] < 1000 || counts[no] < 1000 || counts[maybe] < 1000 {
		t.Errorf("too few cases: %v", counts)
	}
}

// P8.3: what is sure stays sure where a signal is known better
func TestSureStaysSure(t *testing.T) {
	r := rand.New(rand.NewSource(4))
	cases := map[string]int{}
	for range 20000 {
		c, l := someCond(r, 1+r.Intn(10)), someSignals(r)
		before := guard.Eval(c, l)
		for i := range l {
			if a := &l[i].Value; a.Lo <= a.Hi && r.Intn(2) == 0 {
				a.Lo += r.Intn(a.Hi - a.Lo + 1)
				a.Hi -= r.Intn(a.Hi - a.Lo + 1)
			}
		}
		after := guard.Eval(c, l)
		switch {
		case before != maybe && after != before:
			t.Errorf("Eval of %s with smaller spans = %d, not %d", guard.FormatCond(c), after, before)
		case before != maybe:
			cases["sure"]++
		case after != maybe:
			cases["surer"]++
		}
	}
	enough(t, cases, 500, "sure", "surer")
}

// P8.4: signals with other names change nothing, wherever they stand
func TestOtherNames(t *testing.T) {
	r := rand.New(rand.NewSource(5))
	others := 0
	for range 5000 {
		c, l := someCond(r, 1+r.Intn(5)), someSignals(r)
		names := guard.Names(c)
		mentioned := slices.DeleteFunc(slices.Clone(l), func(s api.Signal) bool { return !slices.Contains(names, s.Name) })
		others += len(l) - len(mentioned)
		want := guard.Eval(c, mentioned)
		same(t, "Eval with other signals", guard.Eval(c, l), want)
		for _, name := range []string{"other", "", "A b", "and", "a "} {
			l = slices.Insert(l, r.Intn(len(l)+1), api.Signal{Name: name, Value: someSpan(r)})
			same(t, "Eval with other signals", guard.Eval(c, l), want)
		}
	}
	if others < 1000 {
		t.Errorf("too few cases: %d", others)
	}
}
