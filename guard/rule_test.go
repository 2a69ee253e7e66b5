package guard_test

import (
	"math/rand"
	"reflect"
	"regexp"
	"slices"
	"strconv"
	"strings"
	"testing"

	"shotdesk/api"
	"shotdesk/guard"
)

// sampleRules have the numbers at their ends, and a condition of each kind.
func sampleRules() []api.Rule {
	return []api.Rule{
		drift(),
		{Name: "a", When: not(and(less("a", 1), from("b", -2, 3))), For: 1, Mode: api.MWarn},
		{Name: "b", When: high, For: 1000, Doubt: 1000, Mode: api.MGas, Clear: 1000},
		{Name: "abcdefghijklmnop", When: or(and(high, high), high), For: 7, Doubt: 1, Mode: api.MOff, Clear: 1},
	}
}

const sampleText = driftLine + `a when not ( a < 1 and b from -2 to 3 ) for 1 doubt 0 mode warn clear 0
b when a > 0 for 1000 doubt 1000 mode gas clear 1000
abcdefghijklmnop when a > 0 and a > 0 or a > 0 for 7 doubt 1 mode off clear 1
`

// many returns so many rules with names of their own.
func many(n int) []api.Rule {
	var l []api.Rule
	for i := range n {
		l = append(l, rule("r"+strconv.Itoa(i), 1, 0, api.MWarn, 0))
	}
	return l
}

// changedRule returns the rules with a change of one of them.
func changedRule(l []api.Rule, i int, change func(x *api.Rule)) []api.Rule {
	l = slices.Clone(l)
	change(&l[i])
	return l
}

// invalidRules are rules with an error in the second one, or too many.
func invalidRules() map[string][]api.Rule {
	l := map[string][]api.Rule{"17 rules": many(17), "a nothing": {{}}, "many": many(1000)}
	change := func(what string, do func(x *api.Rule)) { l[what] = changedRule(sampleRules(), 1, do) }
	for _, name := range append([]string{"", "A", "1a", "a b", "a ", "abcdefghijklmnopq", "drift", "b", "abcdefghijklmnop"}, reserved...) {
		change("the name "+name, func(x *api.Rule) { x.Name = name })
	}
	for _, n := range append([]int{-1, 1001}, wild...) {
		change("For "+strconv.Itoa(n), func(x *api.Rule) { x.For = n })
		change("Doubt "+strconv.Itoa(n), func(x *api.Rule) { x.Doubt = n })
		change("Clear "+strconv.Itoa(n), func(x *api.Rule) { x.Clear = n })
		change("Mode "+strconv.Itoa(n), func(x *api.Rule) { x.Mode = n })
	}
	change("For 0", func(x *api.Rule) { x.For = 0 })
	change("Mode 0", func(x *api.Rule) { x.Mode = api.MRun })
	change("Mode 5", func(x *api.Rule) { x.Mode = 5 })
	for what, c := range invalidConds() {
		change("a condition: "+what, func(x *api.Rule) { x.When = c })
	}
	return l
}

// 8.2
func TestValidRules(t *testing.T) {
	for _, l := range [][]api.Rule{nil, {}, sampleRules(), many(1), many(16), {rule("run", 1, 0, 1, 0)}} {
		same(t, "ValidRules", guard.ValidRules(l), true)
	}
	for what, c := range validConds() {
		same(t, "ValidRules with "+what, guard.ValidRules(changedRule(sampleRules(), 3, func(x *api.Rule) { x.When = c })), true)
	}
	for what, l := range invalidRules() {
		same(t, "ValidRules with "+what, guard.ValidRules(l), false)
		same(t, "FormatRules with "+what, guard.FormatRules(l), "")
		same(t, "ValidGuard with "+what, guard.ValidGuard(l, api.Guard{Watches: make([]api.Watch, len(l)), Gas: true}), false)
	}
}

// watches are the numbers of a guard's Watches.
func watches(g *api.Guard) []*int {
	var l []*int
	for i := range g.Watches {
		w := &g.Watches[i]
		l = append(l, &w.True, &w.Open, &w.False)
	}
	return l
}

// 8.2
func TestValidGuard(t *testing.T) {
	l := sampleRules()[:2]
	right := func() api.Guard { return api.Guard{Watches: make([]api.Watch, 2)} }
	valid := func(want bool, change func(g *api.Guard)) {
		t.Helper()
		g := right()
		change(&g)
		if guard.ValidGuard(l, g) != want {
			t.Errorf("ValidGuard of %v = %t", g, !want)
		}
	}
	for mode := range 5 {
		valid(true, func(g *api.Guard) { g.Mode, g.Gas = mode, mode%2 == 0 })
	}
	for _, n := range append([]int{-1, 5}, wild...) {
		valid(false, func(g *api.Guard) { g.Mode = n })
	}
	for i := range 6 {
		valid(true, func(g *api.Guard) { *watches(g)[i] = maxStreak })
		for _, n := range append([]int{-1, maxStreak + 1}, wild...) {
			valid(false, func(g *api.Guard) { *watches(g)[i] = n })
		}
	}
	// numbers that no step leaves are valid, too
	valid(true, func(g *api.Guard) { g.Watches[1] = api.Watch{True: 3, Open: 1, False: 9, Fired: true} })
	for _, n := range []int{0, 1, 3} {
		valid(false, func(g *api.Guard) { g.Watches = make([]api.Watch, n) })
	}
	same(t, "ValidGuard of nothing", guard.ValidGuard(nil, api.Guard{}), true)
	same(t, "ValidGuard of nothing with a watch", guard.ValidGuard(nil, api.Guard{Watches: make([]api.Watch, 1)}), false)
}

// 8.2
func TestFormatRules(t *testing.T) {
	same(t, "FormatRules", guard.FormatRules(sampleRules()), sampleText)
	same(t, "FormatRules of nothing", guard.FormatRules(nil), "")
	same(t, "FormatRules of 16", strings.Count(guard.FormatRules(many(16)), "\n"), 16)
	for mode := api.MWarn; mode <= api.MOff; mode++ {
		same(t, "FormatRules", guard.FormatRules([]api.Rule{rule("x", 1, 2, mode, 3)}), "x when a > 0 for 1 doubt 2 mode "+guard.Word(mode)+" clear 3\n")
	}
}

// parses checks that rules are read from a text.
func parses(t *testing.T, text string, want ...api.Rule) {
	t.Helper()
	if l, line, e := guard.ParseRules(text); !alike(l, want) || line != 0 || e != api.OK {
		t.Errorf("ParseRules of %q = %v, %d, %d", text, l, line, e)
	}
}

// parseFails checks that an error comes alone.
func parseFails(t *testing.T, text string, line int, e api.Errno) {
	t.Helper()
	if l, n, f := guard.ParseRules(text); len(l) != 0 || n != line || f != e {
		t.Errorf("ParseRules of %q = %v, %d, %d, not line %d, %d", text[:min(len(text), 200)], l, n, f, line, e)
	}
}

// 8.2, P8.6
func TestParseRules(t *testing.T) {
	parses(t, sampleText, sampleRules()...)
	parses(t, "")
	parses(t, guard.FormatRules(many(16)), many(16)...)
	parses(t, "run when run < 0 for 1 doubt 0 mode warn clear 0\n", api.Rule{Name: "run", When: less("run", 0), For: 1, Mode: api.MWarn})
	largest := []api.Rule{{Name: "a", When: and(slices.Repeat([]api.Cond{high}, 63)...), For: 1, Mode: api.MWarn}}
	parses(t, guard.FormatRules(largest), largest...)
}

// P8.6, P3
func TestParseRulesReadsFormatRules(t *testing.T) {
	r := rand.New(rand.NewSource(8))
	for range 2000 {
		l := someRules(r)
		parses(t, guard.FormatRules(l), l...)
	}
	for text, c := range texts() {
		parses(t, "x when "+text+" for 1 doubt 2 mode off clear 3\n", api.Rule{Name: "x", When: c, For: 1, Doubt: 2, Mode: api.MOff, Clear: 3})
	}
}

// 8.2, P8.6: rules may have a text that is too long to be read
func TestLongRules(t *testing.T) {
	longest := and(slices.Repeat([]api.Cond{from("abcdefghijklmnop", -api.MaxValue, -api.MaxValue)}, 63)...)
	var l []api.Rule
	for i := range 16 {
		l = append(l, api.Rule{Name: "abcdefghijklmn" + strconv.Itoa(10+i), When: longest, For: 1000, Doubt: 1000, Mode: api.MWarn, Clear: 1000})
	}
	text := guard.FormatRules(l)
	if len(text) <= api.MaxText {
		t.Fatalf("the longest rules have only %d bytes", len(text))
	}
	parseFails(t, text, 0, api.ErrLong)
	parses(t, guard.FormatRules(l[:15]), l[:15]...)
	parseFails(t, strings.Repeat("x", api.MaxText+1), 0, api.ErrLong)
	parseFails(t, strings.Repeat("x", api.MaxText), 0, api.ErrSyntax)
	parseFails(t, sampleText+strings.Repeat("\n", api.MaxText+1-len(sampleText)), 0, api.ErrLong)
	parseFails(t, sampleText+strings.Repeat("\n", api.MaxText-len(sampleText)), 4, api.ErrSyntax)
	// as many brackets as there can be
	deep := (api.MaxText - 60) / 4
	parseFails(t, "x when "+strings.Repeat("( ", deep)+"a < 1"+strings.Repeat(" )", deep)+" for 1 doubt 0 mode warn clear 0\n", 0, api.ErrSyntax)
}

// wrongLines are no lines of rules.
func wrongLines() []string {
	l := []string{
		"", " ", "x", "x when", "x when for 1 doubt 0 mode warn clear 0", "when a > 0 for 1 doubt 0 mode warn clear 0", "x a > 0 for 1 doubt 0 mode warn clear 0",
		"x when a > 0", "x when a > 0 for 1", "x when a > 0 for 1 doubt 0", "x when a > 0 for 1 doubt 0 mode warn", "x when a > 0 for 1 doubt 0 mode warn clear",
		"x when a > 0 for 1 doubt 0 mode warn clear 0 0", "x when a > 0 for 1 doubt 0 mode warn clear 0 and", "x x when a > 0 for 1 doubt 0 mode warn clear 0",
		"x when when a > 0 for 1 doubt 0 mode warn clear 0", "x when a > 0 for 1 for 1 doubt 0 mode warn clear 0", "x when a > 0 for 1 doubt 0 mode warn clear 0 clear 0",
		"x when a > 0 doubt 0 for 1 mode warn clear 0", "x when a > 0 for 1 mode warn doubt 0 clear 0", "x when a > 0 for 1 doubt 0 clear 0 mode warn", "x when a > 0 for 1 doubt 0 mode 1 clear 0",
		"x when a > 0 for doubt 0 mode warn clear 0", "x when a > 0 for 1 2 doubt 0 mode warn clear 0", "x if a > 0 for 1 doubt 0 mode warn clear 0",
		// numbers, and words of modes
		"x when a > 0 for 0 doubt 0 mode warn clear 0", "x when a > 0 for 1001 doubt 0 mode warn clear 0", "x when a > 0 for -1 doubt 0 mode warn clear 0", "x when a > 0 for 01 doubt 0 mode warn clear 0",
		"x when a > 0 for +1 doubt 0 mode warn clear 0", "x when a > 0 for 1 doubt -1 mode warn clear 0", "x when a > 0 for 1 doubt -0 mode warn clear 0", "x when a > 0 for 1 doubt 1001 mode warn clear 0",
		"x when a > 0 for 1 doubt 00 mode warn clear 0", "x when a > 0 for 1 doubt 0 mode warn clear 1001", "x when a > 0 for 1 doubt 0 mode warn clear -1", "x when a > 0 for 1 doubt 0 mode warn clear 00",
		"x when a > 0 for 1 doubt 0 mode run clear 0", "x when a > 0 for 1 doubt 0 mode Warn clear 0", "x when a > 0 for 1 doubt 0 mode war clear 0", "x when a > 0 for 1 doubt 0 mode x clear 0",
		"x when a > 0 for 99999999999999999999 doubt 0 mode warn clear 0", "x when a > 0 for one doubt 0 mode warn clear 0", "x when a > 0 for 1 doubt 0 mode  clear 0",
		// names
		"X when a > 0 for 1 doubt 0 mode warn clear 0", "1 when a > 0 for 1 doubt 0 mode warn clear 0", "x-y when a > 0 for 1 doubt 0 mode warn clear 0", "abcdefghijklmnopq when a > 0 for 1 doubt 0 mode warn clear 0",
		// conditions that are none, or that ParseCond reads, but FormatCond does not write
		"x when a for 1 doubt 0 mode warn clear 0", "x when a > 0 and for 1 doubt 0 mode warn clear 0", "x when a > 01 for 1 doubt 0 mode warn clear 0", "x when A > 0 for 1 doubt 0 mode warn clear 0",
		"x when ( a > 0 ) for 1 doubt 0 mode warn clear 0", "x when not ( a > 0 ) for 1 doubt 0 mode warn clear 0", "x when ( a > 0 and a > 0 ) or a > 0 for 1 doubt 0 mode warn clear 0", "x when not ( not a > 0 ) for 1 doubt 0 mode warn clear 0",
		"x when a  > 0 for 1 doubt 0 mode warn clear 0", "x when  a > 0 for 1 doubt 0 mode warn clear 0", "x when a > 0  for 1 doubt 0 mode warn clear 0", "x when ( a > 0 for 1 doubt 0 mode warn clear 0", "x when a > 0 ) for 1 doubt 0 mode warn clear 0",
		// other blanks, and other signs
		" x when a > 0 for 1 doubt 0 mode warn clear 0", "x  when a > 0 for 1 doubt 0 mode warn clear 0", "x when a > 0 for  1 doubt 0 mode warn clear 0", "x when a > 0 for 1 doubt 0 mode warn clear 0 ", "x when a > 0 for 1 doubt 0 mode warn clear  0",
		"x\twhen a > 0 for 1 doubt 0 mode warn clear 0", "x when a > 0 for 1 doubt 0 mode warn clear 0\r", "x when a > 0 for 1 doubt 0 mode warn clear 0\x00", "x when a > 0 for 1 doubt 0 mode warn clear 0;", "rule x when a > 0 for 1 doubt 0 mode warn clear 0",
		"x when " + strings.Repeat("a > 0 and ", 64) + "a > 0 for 1 doubt 0 mode warn clear 0", "x when " + strings.Repeat("not ", 64) + "a > 0 for 1 doubt 0 mode warn clear 0",
	}
	for _, word := range reserved {
		l = append(l, word+" when a > 0 for 1 doubt 0 mode warn clear 0", "x when "+word+" > 0 for 1 doubt 0 mode warn clear 0")
	}
	return l
}

// 8.2 and Details
func TestParseRulesErrors(t *testing.T) {
	parses(t, "x when a > 0 for 1 doubt 0 mode warn clear 0\n", rule("x", 1, 0, api.MWarn, 0))
	for _, text := range wrongLines() {
		parseFails(t, text+"\n", 0, api.ErrSyntax)
		parseFails(t, sampleText+text+"\n", 4, api.ErrSyntax)
		parseFails(t, sampleText+text+"\n"+sampleText, 4, api.ErrSyntax)
	}
	// a missing line feed, and an empty line
	parseFails(t, sampleText[:len(sampleText)-1], 3, api.ErrSyntax)
	parseFails(t, driftLine[:len(driftLine)-1], 0, api.ErrSyntax)
	parseFails(t, "\n", 0, api.ErrSyntax)
	parseFails(t, driftLine+"\n"+driftLine, 1, api.ErrSyntax)
	// a name that is there twice, and a 17th rule
	parseFails(t, sampleText+driftLine, 4, api.ErrSyntax)
	parseFails(t, driftLine+driftLine+"x\n", 1, api.ErrSyntax)
	sixteen := guard.FormatRules(many(16))
	parseFails(t, sixteen+driftLine, 16, api.ErrSyntax)
	parseFails(t, sixteen+"x\n", 16, api.ErrSyntax)
	parseFails(t, sixteen[:len(sixteen)-1], 15, api.ErrSyntax)
	// the first wrong line counts
	parseFails(t, driftLine+"x\ny\n", 1, api.ErrSyntax)
	parseFails(t, "x\n"+driftLine, 0, api.ErrSyntax)
}

var ruleForm = regexp.MustCompile(`^([a-z][a-z0-9_]{0,15}) when (.+) for (0|[1-9][0-9]{0,3}) doubt (0|[1-9][0-9]{0,3}) mode (warn|soft|gas|off) clear (0|[1-9][0-9]{0,3})\n$`)

// expected is what the chapter says of a text that is not too long, if FormatCond and ParseCond are right.
func expected(text string) (line int, e api.Errno) {
	names := map[string]bool{}
	for i, l := range strings.SplitAfter(text, "\n") {
		if l == "" && i == strings.Count(text, "\n") {
			break
		}
		f := ruleForm.FindStringSubmatch(l)
		if f == nil || names[f[1]] || slices.Contains(reserved, f[1]) {
			return i, api.ErrSyntax
		}
		c, _ := guard.ParseCond(f[2])
		wait, _ := strconv.Atoi(f[3])
		doubt, _ := strconv.Atoi(f[4])
		clearing, _ := strconv.Atoi(f[6])
		if guard.FormatCond(c) != f[2] || wait < 1 || wait > 1000 || doubt > 1000 || clearing > 1000 {
			return i, api.ErrSyntax
		}
		names[f[1]] = true
	}
	return 0, api.OK
}

// 8.2, P3: of all texts that differ by a byte from one that FormatRules writes, just those that it writes are read
func TestParseChangedRules(t *testing.T) {
	const text = "a when b < 1 or not ( c > -2 and d from 1 to 10 ) for 10 doubt 1000 mode soft clear 0\nb when b < 1 for 1 doubt 2 mode off clear 3\n"
	read := 0
	check := func(text string) {
		line, e := expected(text)
		l, n, f := guard.ParseRules(text)
		if n != line || f != e || e != api.OK && len(l) != 0 || e == api.OK && guard.FormatRules(l) != text {
			t.Errorf("ParseRules of %q = %v, %d, %d, not %d, %d", text, l, n, f, line, e)
		}
		if e == api.OK {
			read++
		}
	}
	check(text)
	for i := range len(text) {
		check(text[:i] + text[i+1:])
		check(text[:i])
		for _, b := range []byte("abct0129 -+_<>()\n\t.\x00\xff") {
			check(text[:i] + string([]byte{b}) + text[i:])
			check(text[:i] + string([]byte{b}) + text[i+1:])
		}
	}
	if read < 100 {
		t.Errorf("too few cases: %d", read)
	}
}

// R4: no two conditions of rules that are read share memory
func TestParsedApart(t *testing.T) {
	l, _, _ := guard.ParseRules(sampleText)
	l[0].When.Kids[0], l[0].When.Kids[1] = api.Cond{}, api.Cond{}
	l[1].When.Kids[0].Kids[0] = api.Cond{}
	_ = append(l[3].When.Kids, api.Cond{Op: 9})
	if again, _, _ := guard.ParseRules(sampleText); !reflect.DeepEqual(again, sampleRules()) || !reflect.DeepEqual(l[2:], sampleRules()[2:]) {
		t.Errorf("ParseRules = %v, and %v before", again, l)
	}
}
