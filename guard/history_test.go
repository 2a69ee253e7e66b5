package guard_test

import (
	"math/rand"
	"slices"
	"strings"
	"testing"

	"shotdesk/api"
	"shotdesk/guard"
)

// 8.4
func TestFired(t *testing.T) {
	for _, c := range []struct {
		n, doubt, clear int
		h, want         string // + after each tick after which the rule has fired
	}{
		{1, 0, 0, "", ""}, {1, 0, 0, "y", "+"}, {1, 0, 0, "n", "-"}, {1, 0, 0, "?", "-"}, {1, 0, 0, "n?yn?", "--+++"},
		{3, 0, 0, "yy", "--"}, {3, 0, 0, "yyy", "--+"}, {3, 0, 0, "yy?yynyyyn", "--------++"},
		{9, 2, 0, "?", "-"}, {9, 2, 0, "??", "-+"}, {9, 2, 0, "?n?y", "---+"}, {9, 2, 0, "yyn", "-++"}, {1, 2, 0, "y", "+"}, {2, 1, 0, "n?", "-+"},
		{9, 0, 0, "????????????", "------------"},
		{1, 0, 1, "ynyn", "+-+-"}, {1, 0, 2, "ynyn", "++++"}, {1, 0, 2, "ynnn", "++--"}, {1, 0, 2, "yn?nny", "++++-+"}, {1, 0, 3, "nnyn?nn?nnn?", "--++++++++--"},
		// what was No before it fired clears as little as it keeps it from firing
		{1, 0, 2, "nny", "--+"}, {2, 2, 1, "n?yn", "--+-"}, {1, 0, 1, "nnn", "---"},
		// for good
		{1, 0, 0, "ynnnnnnnnnnnnnnnnn", "++++++++++++++++++"},
		// it fires again after it was cleared
		{2, 3, 1, "yyn?y?nyy", "-+---+--+"},
	} {
		var want []bool
		for _, sign := range c.want {
			want = append(want, sign == '+')
		}
		x := rule("x", c.n, c.doubt, api.MWarn, c.clear)
		is(t, "Fired of "+c.h+" with "+guard.FormatRules([]api.Rule{x}), want)(guard.Fired(x, ticks(c.h)))
	}
}

// modelFired is the chapter's words: for each tick, all ticks before it are looked at again.
func modelFired(x api.Rule, truths []api.Truth) []bool {
	was := func(upTo, n int, wanted func(api.Truth) bool) bool {
		for t := upTo - n + 1; t <= upTo; t++ {
			if t < 0 || !wanted(truths[t]) {
				return false
			}
		}
		return true
	}
	fires := func(u int) bool {
		return was(u, x.For, func(t api.Truth) bool { return t == yes }) || x.Doubt > 0 && was(u, x.Doubt, func(t api.Truth) bool { return t != no })
	}
	cleared := func(v int) bool {
		return x.Clear > 0 && was(v, x.Clear, func(t api.Truth) bool { return t == no }) && !fires(v)
	}
	list := make([]bool, len(truths))
	for t := range truths {
		for u := range t + 1 {
			if !fires(u) {
				continue
			}
			kept := true
			for v := u + 1; v <= t; v++ {
				kept = kept && !cleared(v)
			}
			list[t] = list[t] || kept
		}
	}
	return list
}

// checkTwoWays holds Fired, and the Watches of Run, against the model.
func checkTwoWays(t *testing.T, x api.Rule, h [][]api.Signal) []bool {
	t.Helper()
	var truths []api.Truth
	for _, s := range h {
		truths = append(truths, guard.Eval(x.When, s))
	}
	want := modelFired(x, truths)
	text := guard.FormatRules([]api.Rule{x})
	is(t, "Fired of "+text, want)(guard.Fired(x, h))
	guards, _ := guard.Run([]api.Rule{x}, h)
	var fired []bool
	for _, g := range guards[1:] {
		fired = append(fired, g.Watches[0].Fired)
	}
	if !slices.Equal(fired, want) {
		t.Errorf("in Run of %swith %v a rule has fired %v, not %v", text, truths, fired, want)
	}
	return want
}

// P8.2, 8.4: looking back and going with it tell the same, for all histories of up to six ticks
func TestTwoWaysOfAllHistories(t *testing.T) {
	histories := []string{""}
	for first := 0; len(histories[len(histories)-1]) < 6; {
		last := len(histories)
		for _, h := range histories[first:last] {
			histories = append(histories, h+"y", h+"n", h+"?")
		}
		first = last
	}
	for _, h := range histories {
		for n := 1; n <= 3; n++ {
			for doubt := range 4 {
				for clearing := range 4 {
					checkTwoWays(t, rule("x", n, doubt, api.MSoft, clearing), ticks(h))
				}
			}
		}
	}
}

// P8.2: for random rules among others
func TestTwoWays(t *testing.T) {
	r := rand.New(rand.NewSource(12))
	cases := map[string]int{}
	for range 1500 {
		l := someRules(r)
		h := make([][]api.Signal, 40)
		for i := range h {
			h[i] = someSignals(r)
		}
		guards, _ := guard.Run(l, h)
		for k, x := range l {
			for i, fired := range checkTwoWays(t, x, h) {
				same(t, "Fired among others", guards[i+1].Watches[k].Fired, fired)
				if i > 0 && fired != guards[i].Watches[k].Fired {
					cases[map[bool]string{true: "fires", false: "is cleared"}[fired]]++
				}
			}
		}
	}
	enough(t, cases, 500, "fires", "is cleared")
}

// P8.2, 8.4: with the greatest numbers, in the longest history
func TestLongHistories(t *testing.T) {
	x := rule("x", 1000, 1000, api.MSoft, 1000)
	h := ticks(strings.Repeat("y", 999) + "n" + strings.Repeat("?", 999) + "n" + strings.Repeat("y", 1000) + strings.Repeat("n", 999) + "?" + strings.Repeat("n", 1001) + strings.Repeat("?", 4999))
	want := make([]bool, 10000)
	for i := range want {
		want[i] = 2999 <= i && i < 4999 || i >= 6000
	}
	is(t, "Fired of 10,000 ticks", want)(guard.Fired(x, h))
	guards, e := guard.Run([]api.Rule{x}, h)
	for i, fired := range want {
		if e != api.OK || guards[i+1].Watches[0].Fired != fired {
			t.Fatalf("after the tick %d of Run the rule has fired: %t", i, !fired)
		}
	}
}

// 8.4
func TestFirst(t *testing.T) {
	l := []api.Rule{rule("w", 2, 0, api.MWarn, 1), rule("s", 9, 3, api.MSoft, 1), rule("g", 4, 0, api.MGas, 0)}
	h := ticks("yn?y?yyyy")
	for mode, want := range []int{0, 4, 4, 8} {
		is(t, "First", want)(guard.First(l, h, mode))
	}
	fails[int](t, "First", api.ErrNone)(guard.First(l, h, api.MOff))
	is(t, "First of a warning", 1)(guard.First(l[:1], ticks("yyn"), api.MWarn))
	fails[int](t, "First of a warning", api.ErrNone)(guard.First(l[:1], ticks("yyn"), api.MSoft))
	is(t, "First of MRun", 0)(guard.First(l, ticks("n"), api.MRun))
	is(t, "First of MRun", 0)(guard.First(nil, ticks("?y"), api.MRun))
	is(t, "First at once", 0)(guard.First([]api.Rule{rule("x", 1, 1, api.MOff, 0)}, ticks("?y"), api.MRun))
	is(t, "First at once", 0)(guard.First([]api.Rule{rule("x", 1, 1, api.MOff, 0)}, ticks("?y"), api.MOff))
	is(t, "First of MGas", 0)(guard.First([]api.Rule{rule("x", 1, 0, api.MGas, 0)}, ticks("y"), api.MGas))
	for mode := range 5 {
		fails[int](t, "First of no ticks", api.ErrNone)(guard.First(l, nil, mode))
	}
}

// 8.4: First is the first of Run's guards
func TestFirstOfRun(t *testing.T) {
	r := rand.New(rand.NewSource(13))
	found := map[int]int{}
	for range 2000 {
		l, h := someRules(r), someHistory(r)
		guards, _ := guard.Run(l, h)
		for mode := range 5 {
			want := slices.IndexFunc(guards[1:], func(g api.Guard) bool { return g.Mode >= mode })
			if want < 0 {
				fails[int](t, "First", api.ErrNone)(guard.First(l, h, mode))
				continue
			}
			found[mode]++
			is(t, "First", want)(guard.First(l, h, mode))
		}
	}
	for mode := range 5 {
		if found[mode] < 100 {
			t.Errorf("too few cases: %v", found)
		}
	}
}

// 8.4 and Details: the order of errors
func TestHistoryErrors(t *testing.T) {
	x, long := drift(), make([][]api.Signal, 10001)
	is(t, "Fired of 10,000 ticks", make([]bool, 10000))(guard.Fired(rule("x", 1, 0, api.MWarn, 0), long[1:]))
	fails[[]bool](t, "Fired of 10,001 ticks", api.ErrLimit)(guard.Fired(x, long))
	fails[int](t, "First of 10,001 ticks", api.ErrLimit)(guard.First([]api.Rule{x}, long, api.MWarn))
	fails[int](t, "First of 10,001 ticks", api.ErrLimit)(guard.First([]api.Rule{x}, long, -1))
	for _, mode := range append([]int{-1, 5}, wild...) {
		fails[int](t, "First of no mode", api.ErrRange)(guard.First([]api.Rule{x}, ticks("yn"), mode))
		fails[int](t, "First of no mode", api.ErrRange)(guard.First(nil, nil, mode))
	}
	for what, l := range invalidRules() {
		fails[int](t, "First with "+what, api.ErrInvalid)(guard.First(l, ticks("y"), api.MRun))
		fails[int](t, "First with "+what, api.ErrInvalid)(guard.First(l, long, -1))
	}
	for what, l := range invalidRules() {
		if len(l) != len(sampleRules()) || guard.ValidRules(l[1:2]) {
			// too many, or a name that is another one's: each rule alone is valid
			continue
		}
		fails[[]bool](t, "Fired with "+what, api.ErrInvalid)(guard.Fired(l[1], ticks("y")))
		fails[[]bool](t, "Fired with "+what, api.ErrInvalid)(guard.Fired(l[1], long))
	}
}
