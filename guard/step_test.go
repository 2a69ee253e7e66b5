package guard_test

import (
	"math/rand"
	"slices"
	"strings"
	"testing"

	"shotdesk/api"
	"shotdesk/guard"
)

// one returns a guard with one Watch.
func one(w api.Watch, mode int, gas bool) api.Guard {
	return api.Guard{Watches: []api.Watch{w}, Mode: mode, Gas: gas}
}

// 8.3: what a tick makes of a Watch
func TestStepWatch(t *testing.T) {
	for _, c := range []struct {
		n, doubt, clear int
		before          api.Watch
		truth           api.Truth
		want            api.Watch
	}{
		// the three numbers
		{9, 9, 9, api.Watch{}, yes, api.Watch{True: 1, Open: 1}}, {9, 9, 9, api.Watch{}, no, api.Watch{False: 1}}, {9, 9, 9, api.Watch{}, maybe, api.Watch{Open: 1}},
		{9, 9, 9, api.Watch{True: 2, Open: 4}, yes, api.Watch{True: 3, Open: 5}}, {9, 9, 9, api.Watch{True: 2, Open: 4}, maybe, api.Watch{Open: 5}},
		{9, 9, 9, api.Watch{True: 2, Open: 4}, no, api.Watch{False: 1}}, {9, 9, 9, api.Watch{False: 3}, no, api.Watch{False: 4}}, {9, 9, 9, api.Watch{False: 3}, maybe, api.Watch{Open: 1}},
		{9, 9, 9, api.Watch{True: 2, Open: 4, False: 6}, yes, api.Watch{True: 3, Open: 5}}, {9, 9, 9, api.Watch{True: 2, Open: 4, False: 6}, no, api.Watch{False: 7}},
		// they end at 1,000,000
		{9, 0, 9, api.Watch{True: maxStreak, Open: maxStreak, False: maxStreak, Fired: true}, yes, api.Watch{True: maxStreak, Open: maxStreak, Fired: true}},
		{9, 0, 0, api.Watch{True: maxStreak - 1, Open: maxStreak - 1}, yes, api.Watch{True: maxStreak, Open: maxStreak, Fired: true}},
		{9, 0, 0, api.Watch{Open: maxStreak}, maybe, api.Watch{Open: maxStreak}}, {9, 0, 0, api.Watch{Open: maxStreak - 1}, maybe, api.Watch{Open: maxStreak}},
		{9, 0, 9, api.Watch{False: maxStreak}, no, api.Watch{False: maxStreak}}, {9, 0, 0, api.Watch{False: maxStreak, Fired: true}, no, api.Watch{False: maxStreak, Fired: true}},
		// For
		{3, 0, 0, api.Watch{True: 1, Open: 1}, yes, api.Watch{True: 2, Open: 2}}, {3, 0, 0, api.Watch{True: 2, Open: 2}, yes, api.Watch{True: 3, Open: 3, Fired: true}},
		{3, 0, 0, api.Watch{True: 7, Open: 7}, yes, api.Watch{True: 8, Open: 8, Fired: true}}, {1, 0, 0, api.Watch{}, yes, api.Watch{True: 1, Open: 1, Fired: true}},
		{3, 0, 0, api.Watch{True: 2, Open: 2}, maybe, api.Watch{Open: 3}}, {1, 0, 0, api.Watch{True: 5, Open: 5}, maybe, api.Watch{Open: 6}},
		// Doubt
		{9, 3, 0, api.Watch{Open: 1}, maybe, api.Watch{Open: 2}}, {9, 3, 0, api.Watch{Open: 2}, maybe, api.Watch{Open: 3, Fired: true}}, {9, 3, 0, api.Watch{Open: 2}, yes, api.Watch{True: 1, Open: 3, Fired: true}},
		{9, 3, 0, api.Watch{Open: 2}, no, api.Watch{False: 1}}, {9, 1, 0, api.Watch{}, maybe, api.Watch{Open: 1, Fired: true}}, {9, 0, 0, api.Watch{Open: 500}, maybe, api.Watch{Open: 501}},
		// Clear
		{1, 0, 2, api.Watch{Fired: true}, no, api.Watch{False: 1, Fired: true}}, {1, 0, 2, api.Watch{False: 1, Fired: true}, no, api.Watch{False: 2}}, {1, 0, 1, api.Watch{True: 4, Open: 4, Fired: true}, no, api.Watch{False: 1}},
		{1, 0, 0, api.Watch{False: 900, Fired: true}, no, api.Watch{False: 901, Fired: true}}, {1, 0, 2, api.Watch{False: 1, Fired: true}, maybe, api.Watch{Open: 1, Fired: true}},
		{1, 0, 2, api.Watch{False: 5, Fired: true}, yes, api.Watch{True: 1, Open: 1, Fired: true}}, {2, 0, 2, api.Watch{False: 5, Fired: true}, yes, api.Watch{True: 1, Open: 1, Fired: true}},
		{1, 0, 2, api.Watch{False: 9}, no, api.Watch{False: 10}},
	} {
		x := rule("x", c.n, c.doubt, api.MWarn, c.clear)
		mode := api.MRun
		if c.want.Fired {
			mode = api.MWarn
		}
		is(t, "Step of "+guard.FormatRules([]api.Rule{x}), one(c.want, mode, true))(guard.Step([]api.Rule{x}, one(c.before, api.MRun, true), tick(c.truth)))
	}
}

// 8.3: what a tick makes of the mode and of the gas
func TestStepMode(t *testing.T) {
	for _, c := range []struct {
		fired []int // the modes of the rules that have fired
		mode  int
		gas   bool
		want  int
		left  bool
	}{
		{nil, api.MRun, true, api.MRun, true}, {[]int{api.MWarn}, api.MRun, true, api.MWarn, true}, {[]int{api.MSoft}, api.MRun, false, api.MSoft, false}, {[]int{api.MOff}, api.MRun, true, api.MOff, true},
		{[]int{api.MWarn, api.MSoft, api.MWarn}, api.MRun, true, api.MSoft, true}, {[]int{api.MGas, api.MOff, api.MWarn}, api.MRun, true, api.MOff, true},
		// a warning ends, and what is graver does not
		{nil, api.MWarn, true, api.MRun, true}, {[]int{api.MWarn}, api.MWarn, true, api.MWarn, true}, {nil, api.MSoft, true, api.MSoft, true}, {[]int{api.MWarn}, api.MSoft, true, api.MSoft, true},
		{nil, api.MGas, false, api.MGas, false}, {[]int{api.MSoft}, api.MGas, false, api.MGas, false}, {nil, api.MOff, true, api.MOff, true}, {[]int{api.MGas, api.MSoft}, api.MOff, true, api.MOff, true}, {nil, api.MOff, false, api.MOff, false},
		// the gas is let in, or is gone
		{[]int{api.MGas}, api.MRun, true, api.MGas, false}, {[]int{api.MGas}, api.MWarn, true, api.MGas, false}, {[]int{api.MWarn, api.MGas}, api.MSoft, true, api.MGas, false},
		{[]int{api.MGas}, api.MRun, false, api.MOff, false}, {[]int{api.MGas}, api.MWarn, false, api.MOff, false}, {[]int{api.MGas}, api.MSoft, false, api.MOff, false},
		// it is asked for once
		{[]int{api.MGas}, api.MGas, false, api.MGas, false}, {[]int{api.MGas}, api.MGas, true, api.MGas, true}, {nil, api.MGas, true, api.MGas, true}, {[]int{api.MOff}, api.MGas, true, api.MOff, true}, {[]int{api.MOff}, api.MGas, false, api.MOff, false},
	} {
		var l []api.Rule
		before, want := api.Guard{Watches: []api.Watch{{}}, Mode: c.mode, Gas: c.gas}, api.Guard{Watches: []api.Watch{{Open: 1}}, Mode: c.want, Gas: c.left}
		// a rule that has not fired does not count
		l = append(l, rule("idle", 1, 0, api.MOff, 0))
		for i, mode := range c.fired {
			l = append(l, rule(someNames[i], 5, 0, mode, 5))
			before.Watches = append(before.Watches, api.Watch{Fired: true})
			want.Watches = append(want.Watches, api.Watch{Open: 1, Fired: true})
		}
		is(t, "Step of "+guard.FormatRules(l), want)(guard.Step(l, before, tick(maybe)))
	}
}

// 8.3: each rule looks at its own condition
func TestStepOfMany(t *testing.T) {
	l := []api.Rule{
		{Name: "low", When: less("a", 0), For: 1, Mode: api.MSoft},
		{Name: "high", When: high, For: 1, Mode: api.MWarn},
		{Name: "lost", When: high, For: 1, Mode: api.MOff},
	}
	l[2].When.Name = "z"
	begin, _ := guard.Begin(l)
	want := api.Guard{Watches: []api.Watch{{False: 1}, {True: 1, Open: 1, Fired: true}, {Open: 1}}, Mode: api.MWarn, Gas: true}
	is(t, "Step", want)(guard.Step(l, begin, tick(yes)))
	is(t, "Step of nothing", api.Guard{Watches: []api.Watch{}, Mode: api.MRun})(guard.Step(nil, api.Guard{Watches: []api.Watch{}, Mode: api.MWarn}, tick(yes)))
}

// 8.3
func TestRun(t *testing.T) {
	l := []api.Rule{rule("x", 2, 0, api.MWarn, 1), rule("y", 9, 3, api.MGas, 0)}
	is(t, "Run", []api.Guard{
		{Watches: []api.Watch{{}, {}}, Gas: true},
		{Watches: []api.Watch{{True: 1, Open: 1}, {True: 1, Open: 1}}, Gas: true},
		{Watches: []api.Watch{{True: 2, Open: 2, Fired: true}, {True: 2, Open: 2}}, Mode: api.MWarn, Gas: true},
		{Watches: []api.Watch{{False: 1}, {False: 1}}, Gas: true},
		{Watches: []api.Watch{{Open: 1}, {Open: 1}}, Gas: true},
		{Watches: []api.Watch{{True: 1, Open: 2}, {True: 1, Open: 2}}, Gas: true},
		{Watches: []api.Watch{{Open: 3}, {Open: 3, Fired: true}}, Mode: api.MGas},
		{Watches: []api.Watch{{False: 1}, {False: 1, Fired: true}}, Mode: api.MGas},
	})(guard.Run(l, ticks("yyn?y?n")))
	is(t, "Run of no ticks", []api.Guard{{Watches: []api.Watch{{}, {}}, Gas: true}})(guard.Run(l, nil))
	is(t, "Run of no rules", slices.Repeat([]api.Guard{{Watches: []api.Watch{}, Gas: true}}, 3))(guard.Run(nil, ticks("y?")))
}

// 8.3: Run is Begin, and Step again and again
func TestRunIsSteps(t *testing.T) {
	r := rand.New(rand.NewSource(9))
	modes := map[int]int{}
	for range 1000 {
		l, h := someRules(r), someHistory(r)
		now, _ := guard.Begin(l)
		want := []api.Guard{now}
		for _, s := range h {
			now, _ = guard.Step(l, now, s)
			want = append(want, now)
		}
		modes[now.Mode]++
		is(t, "Run", want)(guard.Run(l, h))
	}
	if len(modes) < 5 {
		t.Errorf("too few cases: %v", modes)
	}
}

func someHistory(r *rand.Rand) [][]api.Signal {
	var h [][]api.Signal
	for range r.Intn(12) {
		h = append(h, someSignals(r))
	}
	return h
}

// modelStep is the chapter's step, in its words.
func modelStep(l []api.Rule, g api.Guard, s []api.Signal) api.Guard {
	next := api.Guard{Watches: []api.Watch{}, Gas: g.Gas}
	greatest := api.MRun
	for i, x := range l {
		w := g.Watches[i]
		count := func(n int, holds bool) int {
			if holds {
				return min(n+1, maxStreak)
			}
			return 0
		}
		truth := modelTruth(x.When, s)
		w = api.Watch{True: count(w.True, truth == yes), Open: count(w.Open, truth != no), False: count(w.False, truth == no), Fired: w.Fired}
		if fires := w.True >= x.For || x.Doubt > 0 && w.Open >= x.Doubt; !w.Fired && fires {
			w.Fired = true
		} else if w.Fired && x.Clear > 0 && w.False >= x.Clear {
			w.Fired = false
		}
		if w.Fired && x.Mode > greatest {
			greatest = x.Mode
		}
		next.Watches = append(next.Watches, w)
	}
	next.Mode = greatest
	if g.Mode >= api.MSoft && g.Mode > greatest {
		next.Mode = g.Mode
	}
	if next.Mode == api.MGas && g.Mode != api.MGas {
		if !g.Gas {
			next.Mode = api.MOff
		}
		next.Gas = false
	}
	return next
}

// 8.3
func TestStepModel(t *testing.T) {
	r := rand.New(rand.NewSource(10))
	cases := map[string]int{}
	for range 20000 {
		l, s := someRules(r), someSignals(r)
		g := someGuard(r, l)
		want := modelStep(l, g, s)
		is(t, "Step of "+guard.FormatRules(l), want)(guard.Step(l, g, s))
		if want.Gas != g.Gas {
			cases["the gas is let in"]++
		}
		if want.Mode == api.MOff && g.Mode < api.MOff && !g.Gas {
			cases["there is no gas"]++
		}
		if want.Mode < g.Mode {
			cases["the mode falls"]++
		}
		for i, w := range want.Watches {
			if w.Fired != g.Watches[i].Fired {
				cases[map[bool]string{true: "a rule fires", false: "a rule is cleared"}[w.Fired]]++
			}
		}
	}
	enough(t, cases, 200, "the gas is let in", "there is no gas", "the mode falls", "a rule fires", "a rule is cleared")
}

// P8.3: the mode never falls from MSoft on, and the gas is let in at most once
func TestModeNeverFalls(t *testing.T) {
	r := rand.New(rand.NewSource(11))
	cases := map[string]int{}
	for range 3000 {
		l := someRules(r)
		guards, _ := guard.Run(l, someHistory(r))
		let := 0
		for i, g := range guards[1:] {
			before := guards[i]
			if before.Mode >= api.MSoft && g.Mode < before.Mode {
				t.Errorf("the mode falls from %d to %d", before.Mode, g.Mode)
			}
			if g.Mode >= api.MSoft && g.Mode == before.Mode {
				cases["it stays"]++
			}
			if before.Gas != g.Gas {
				let++
				cases["the gas is let in"]++
				same(t, "the mode in which the gas is let in", g.Mode, api.MGas)
			}
			if g.Gas && !before.Gas {
				t.Error("the gas comes back")
			}
		}
		if let > 1 {
			t.Errorf("the gas is let in %d times", let)
		}
	}
	enough(t, cases, 200, "it stays", "the gas is let in")
}

// 8.3: from a guard without gas, which no Run has, too
func TestGasOfAnyGuard(t *testing.T) {
	l := []api.Rule{rule("x", 1, 0, api.MGas, 1), rule("y", 1, 0, api.MOff, 1)}
	l[1].When.Name = "b"
	full := api.Guard{Watches: make([]api.Watch, 2), Gas: true}
	for _, gas := range []bool{true, false} {
		g := full
		g.Gas = gas
		var modes []string
		for _, s := range ticks("nyn?y") {
			g, _ = guard.Step(l, g, append(s, signal("b", 0, 0)))
			modes = append(modes, guard.Word(g.Mode))
			same(t, "Gas", g.Gas, gas && len(modes) < 2)
		}
		same(t, "the modes", strings.Join(modes, " "), map[bool]string{true: "run gas gas gas gas", false: "run off off off off"}[gas])
	}
}

// 8.3: not valid, or too long
func TestStepErrors(t *testing.T) {
	l := sampleRules()
	begin, _ := guard.Begin(l)
	for what, wrong := range invalidRules() {
		fails[api.Guard](t, "Begin with "+what, api.ErrInvalid)(guard.Begin(wrong))
		fails[api.Guard](t, "Step with "+what, api.ErrInvalid)(guard.Step(wrong, api.Guard{Watches: make([]api.Watch, len(wrong)), Gas: true}, nil))
		fails[[]api.Guard](t, "Run with "+what, api.ErrInvalid)(guard.Run(wrong, ticks("y")))
		fails[[]api.Guard](t, "Run with "+what, api.ErrInvalid)(guard.Run(wrong, make([][]api.Signal, 10001)))
		fails[api.Guard](t, "Refill with "+what, api.ErrInvalid)(guard.Refill(wrong, api.Guard{Watches: make([]api.Watch, len(wrong)), Gas: true}))
	}
	for i := range watches(&begin) {
		for _, n := range append([]int{-1, maxStreak + 1}, wild...) {
			g, _ := guard.Begin(l)
			*watches(&g)[i] = n
			fails[api.Guard](t, "Step of a wrong watch", api.ErrInvalid)(guard.Step(l, g, tick(yes)))
			fails[api.Guard](t, "Refill of a wrong watch", api.ErrInvalid)(guard.Refill(l, g))
		}
	}
	for _, g := range []api.Guard{{}, {Watches: begin.Watches, Mode: 5}, {Watches: begin.Watches, Mode: -1}, {Watches: begin.Watches[:3]}, {Watches: make([]api.Watch, 5)}} {
		fails[api.Guard](t, "Step of a wrong guard", api.ErrInvalid)(guard.Step(l, g, tick(yes)))
	}
	fails[[]api.Guard](t, "Run of 10,001 ticks", api.ErrLimit)(guard.Run(l, make([][]api.Signal, 10001)))
	guards, e := guard.Run(l, make([][]api.Signal, 10000))
	if e != api.OK || len(guards) != 10001 || guards[10000].Watches[0] != (api.Watch{Open: 10000, Fired: true}) {
		t.Errorf("Run of 10,000 ticks has %d guards, %d", len(guards), e)
	}
}
