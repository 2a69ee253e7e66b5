package plan_test

import (
	"math/rand"
	"regexp"
	"slices"
	"strconv"
	"strings"
	"testing"

	"shotdesk/api"
	"shotdesk/guard"
	"shotdesk/plan"
	"shotdesk/shape"
)

// longPlan is a plan for the toy with a text that is too long to be read.
func longPlan() api.Plan {
	p := demo()
	p.Rules = nil
	when := api.Cond{Op: api.CAnd, Kids: slices.Repeat([]api.Cond{{Op: api.CIs, Name: "abcdefghijklmnop", N: -api.MaxValue, M: -api.MaxValue}}, 63)}
	for i := range 16 {
		p.Rules = append(p.Rules, api.Rule{Name: "r" + strconv.Itoa(i), When: when, For: 1, Mode: 1})
	}
	return p
}

const bareText = "plan p by o\nticks 1\ncurrent 0:0\nsafety 0 0\npurse 0\n"

// 9.2
func TestFormat(t *testing.T) {
	same(t, "Format of the demo", plan.Format(toy(), demo()), demoText)
	m, p, _ := bare()
	same(t, "Format of the bare", plan.Format(m, p), bareText)
	p.Ticks, p.Purse, p.Safety = 400, api.MaxValue, api.Safety{Shell: api.MaxAmp, Force: api.MaxValue}
	p.Aims = []api.Aim{{At: 400, Goal: api.Goal{R: -60000, Z: 60000}}}
	same(t, "Format of the greatest numbers", plan.Format(m, p), "plan p by o\nticks 400\ncurrent 0:0\naim 400 -60000 60000\nsafety 1000000 1000000000000000\npurse 1000000000000000\n")
	for _, f := range flaws() {
		m, p := toy(), demo()
		f.make(&m, &p)
		same(t, "Format with "+f.what, plan.Format(m, p), "")
	}
}

// parsed is what Parse gives without its error.
type parsed struct {
	p    api.Plan
	line int
}

func parse(m api.Machine, text string) (parsed, api.Errno) {
	p, line, e := plan.Parse(m, text)
	return parsed{p, line}, e
}

// parseFails checks for an error that comes with nothing but its line.
func parseFails(t *testing.T, m api.Machine, text string, line int, e api.Errno) {
	t.Helper()
	if got, f := parse(m, text); f != e || !equal(got, parsed{line: line}) {
		t.Errorf("Parse of %q = %v, %d, not the line %d, %d", text[:min(len(text), 300)], got, f, line, e)
	}
}

// 9.2
func TestParse(t *testing.T) {
	is(t, "Parse of the demo", parsed{p: demo()})(parse(toy(), demoText))
	m, p, _ := bare()
	is(t, "Parse of the bare", parsed{p: p})(parse(m, bareText))
	is(t, "Parse of the bare for the toy", parsed{p: p})(parse(toy(), bareText))
}

// P9.6, P3: what is written is read
func TestParseReadsFormat(t *testing.T) {
	r := rand.New(rand.NewSource(10))
	for range 1000 {
		m := some(r)
		p := somePlan(r, m)
		text := plan.Format(m, p)
		same(t, "a valid plan's text ends with a line feed", strings.HasSuffix(text, "\n"), true)
		is(t, "Parse of "+text, parsed{p: p})(parse(m, text))
	}
}

// 9.2: ErrInvalid (the machine), then ErrLong, then ErrSyntax
func TestParseOrder(t *testing.T) {
	m := toy()
	m.Limits = nil
	for _, text := range []string{"", demoText, "x", strings.Repeat("x", api.MaxText+1)} {
		parseFails(t, m, text, 0, api.ErrInvalid)
		parseFails(t, api.Machine{}, text, 0, api.ErrInvalid)
	}
	m = toy()
	parseFails(t, m, strings.Repeat("x", api.MaxText+1), 0, api.ErrLong)
	parseFails(t, m, strings.Repeat("x", api.MaxText), 0, api.ErrSyntax)
	parseFails(t, m, strings.Repeat("\n", api.MaxText+1), 0, api.ErrLong)
	parseFails(t, m, plan.Format(m, longPlan()), 0, api.ErrLong)
	// the longest text is read up to its end: a name may be any word
	tail := strings.TrimPrefix(demoText, "plan demo")
	name := strings.Repeat("a", api.MaxText-len(tail)-len("plan "))
	parseFails(t, m, "plan "+name+tail, 0, api.ErrInvalid)
	parseFails(t, m, "plan a"+name+tail, 0, api.ErrLong)
	parseFails(t, m, "plan "+name+tail[:len(tail)-2]+"x\n", 12, api.ErrSyntax)
}

// 9.2: the parts of a plan, where the text has the form of lines
func TestParseCheck(t *testing.T) {
	m := toy()
	change := func(old, new string, e api.Errno) {
		t.Helper()
		text := strings.Replace(demoText, old, new, 1)
		if text == demoText {
			t.Fatalf("there is no %s", old)
		}
		parseFails(t, m, text, 0, e)
	}
	for _, name := range []string{"A", "1", "0:0", "by", "-", "\x00\xff", "ä", "ab\r", "a\t", "abcdefghijklmnopq"} {
		e := api.ErrInvalid
		if name == "by" {
			// which is a name
			e = api.OK
		}
		if _, f := parse(m, strings.Replace(demoText, "demo", name, 1)); f != e {
			t.Errorf("Parse with the name %q: %d", name, f)
		}
		if _, f := parse(m, strings.Replace(demoText, "ann", name, 1)); f != e {
			t.Errorf("Parse with the owner %q: %d", name, f)
		}
		change("coil up", "coil "+name, api.ErrName)
	}
	change("ticks 20", "ticks 0", api.ErrRange)
	change("ticks 20", "ticks -1000000000000000", api.ErrRange)
	change("ticks 20", "ticks 1000000000000000", api.ErrRange)
	change("current 0:0", "current 1:0", api.ErrInvalid)
	change("current 0:0", "current -1:0", api.ErrInvalid)
	change("current 0:0", "current 0:0 0:0", api.ErrInvalid)
	change("current 0:0", "current 0:0"+strings.Repeat(" 1:1", 10000), api.ErrInvalid)
	change("current 0:0", "current 0:1", api.ErrRange)
	change("coil up", "coil ohh", api.ErrName)
	change("coil up", "coil oh", api.ErrDuplicate)
	change("4:-100", "400:-100", api.ErrInvalid)
	change("4:-100", "4:-1000000000000000", api.ErrInvalid)
	change("4:-100", "4:-801", api.ErrRange)
	change("coil up", strings.Repeat("coil oh 0:0\n", 12)+"coil up", api.ErrLimit)
	change("aim 2", "aim 7", api.ErrOrder)
	change("aim 2", "aim -2", api.ErrOrder)
	change("aim 2 11000", "aim 2 61000", api.ErrRange)
	change("aim 2", strings.Repeat("aim 0 0 0\n", 3000)+"aim 2", api.ErrLimit)
	change("bound lift", strings.Repeat("bound area 0..1\n", 15)+"bound lift", api.ErrInvalid)
	change("rule lost", "rule drift", api.ErrInvalid)
	change("safety 5000", "safety 1000001", api.ErrInvalid)
	change("safety 5000", "safety -1", api.ErrInvalid)
	change("purse 1000000000", "purse -1", api.ErrRange)
	is(t, "Parse of 16 bounds", 16)(func() (int, api.Errno) {
		p, e := parse(m, strings.Replace(demoText, "bound lift", strings.Repeat("bound area 0..1\n", 14)+"bound lift", 1))
		return len(p.p.Bounds), e
	}())
}

// 9.2 and Details: lines that have none of the forms
func TestParseForms(t *testing.T) {
	m := toy()
	lines := strings.SplitAfter(demoText, "\n")
	for i, line := range lines[:len(lines)-1] {
		words := strings.Split(strings.TrimSuffix(line, "\n"), " ")
		whole := strings.Join(words, " ")
		wrong := []string{
			"", " ", "x", "\x00", ".", " " + whole, whole + " ", strings.Join(words, "  "), strings.Join(words, "\t"), whole + " x", strings.ToUpper(words[0]), words[0], words[0] + " ",
			strings.Join(words, ""), strings.Join(words[1:], " "), words[0] + ": " + strings.Join(words[1:], " "), strings.ToUpper(words[0][:1]) + whole[1:], whole + " " + whole, "# " + whole,
		}
		if words[0] != "plan" {
			// a name may end with any byte
			wrong = append(wrong, whole+"\r", whole+":")
		}
		if words[0] != "current" && words[0] != "coil" {
			wrong = append(wrong, whole+" 1", whole+" 0:0", strings.Join(words[:len(words)-1], " "))
		}
		for k := range words {
			for _, word := range []string{"", "x", "01", "+1", "-0", "1.0", "1e3", "1_0", "--1", "1000000000000001", "-1000000000000001", "9223372036854775808", "99999999999999999999", "0x1", "0:01", "01:0", "0:+1", "0:1:2", ":", "0:", ":0", "0::0", "0;0", "0:-0", "0:1000000000000001", "-1000000000000001:0", "0:x", "\u0661"} {
				if k > 0 && !aWord(words, k, word) {
					wrong = append(wrong, strings.Join(append(append(slices.Clone(words[:k]), word), words[k+1:]...), " "))
				}
			}
		}
		for _, text := range wrong {
			parseFails(t, m, strings.Join(lines[:i], "")+text+"\n"+strings.Join(lines[i+1:], ""), i, api.ErrSyntax)
			parseFails(t, m, strings.Join(lines[:i], "")+text+"\nx\n", i, api.ErrSyntax)
		}
		// a missing line feed counts for its line, before what is missing behind it
		parseFails(t, m, strings.Join(lines[:i], "")+whole, i, api.ErrSyntax)
		parseFails(t, m, strings.Join(lines[:i], "")+"x", i, api.ErrSyntax)
	}
	for i := range len(lines) - 1 {
		// what is needed is missing
		parseFails(t, m, strings.Join(lines[:i], ""), i, api.ErrSyntax)
	}
}

// aWord reports whether a word may stand in a line's place: as a name, or in a rule's place of a name.
func aWord(words []string, k int, word string) bool {
	if word == "" {
		return false
	}
	switch words[0] {
	case "plan":
		return k == 1 || k == 3
	case "coil":
		return k == 1
	case "rule":
		return word == "x" && (k == 1 || k+1 < len(words) && (words[k+1] == ">" || words[k+1] == "from"))
	}
	return false
}

// A kind of lines, in their order; one that is needed is there once.
type kind struct {
	word   string
	needed bool
}

var kinds = []kind{{"plan", true}, {"ticks", true}, {"current", true}, {"coil", false}, {"aim", false}, {"bound", false}, {"rule", false}, {"safety", true}, {"purse", true}}

func kindOf(line string) int {
	word, _, _ := strings.Cut(line, " ")
	return slices.IndexFunc(kinds, func(k kind) bool { return k.word == word })
}

// follows reports whether a line of a kind may follow one of another kind (-1 for the beginning).
func follows(kind, before int) bool {
	if kind == before {
		return !kinds[kind].needed
	}
	if kind < before {
		return false
	}
	for _, between := range kinds[before+1 : kind] {
		if between.needed {
			return false
		}
	}
	return true
}

// firstWrong returns the first line that stands in a wrong order, or else the number of lines if one is missing, or else -1.
func firstWrong(lines []string) int {
	before := -1
	for i, line := range lines {
		kind := kindOf(line)
		if !follows(kind, before) {
			return i
		}
		before = kind
	}
	if before != len(kinds)-1 {
		return len(lines)
	}
	return -1
}

// 9.2 and Details: the order of lines
func TestParseOrderOfLines(t *testing.T) {
	m := toy()
	r := rand.New(rand.NewSource(11))
	lines := strings.SplitAfter(demoText, "\n")
	lines = lines[:len(lines)-1]
	cases := map[string]int{}
	for range 20000 {
		list := slices.Clone(lines)
		for range 1 + r.Intn(3) {
			i, k := r.Intn(len(list)), r.Intn(len(list))
			switch r.Intn(3) {
			case 0:
				list = slices.Delete(list, i, i+1)
			case 1:
				list[i], list[k] = list[k], list[i]
			case 2:
				list = slices.Insert(list, k, list[i])
			}
		}
		text, want := strings.Join(list, ""), firstWrong(list)
		if want >= 0 {
			cases["wrong"]++
			if want == len(list) {
				cases["missing"]++
			}
			parseFails(t, m, text, want, api.ErrSyntax)
			continue
		}
		cases["right"]++
		p, line, e := plan.Parse(m, text)
		if e == api.ErrSyntax || line != 0 || e == api.OK && plan.Format(m, p) != text {
			t.Errorf("Parse of %q = %v, %d, %d", text, p, line, e)
		}
	}
	enough(t, cases, 300, "wrong", "missing", "right")
	for _, a := range lines {
		for _, b := range lines {
			pair := []string{a, b}
			parseFails(t, m, a+b, firstWrong(pair), api.ErrSyntax)
		}
	}
}

const numberForm = `(0|-?[1-9][0-9]{0,14}|-?1000000000000000)`

var lineForms = map[string]*regexp.Regexp{
	"plan":    regexp.MustCompile(`^plan [^ \n]+ by [^ \n]+\n$`),
	"ticks":   regexp.MustCompile(`^ticks ` + numberForm + `\n$`),
	"current": regexp.MustCompile(`^current( ` + numberForm + `:` + numberForm + `)+\n$`),
	"coil":    regexp.MustCompile(`^coil [^ \n]+( ` + numberForm + `:` + numberForm + `)+\n$`),
	"aim":     regexp.MustCompile(`^aim( ` + numberForm + `){3}\n$`),
	"safety":  regexp.MustCompile(`^safety( ` + numberForm + `){2}\n$`),
	"purse":   regexp.MustCompile(`^purse ` + numberForm + `\n$`),
}

// isLine reports whether a line has the form of its kind; layers 6 and 8 tell that of theirs.
func isLine(line string) bool {
	word, rest, _ := strings.Cut(line, " ")
	switch word {
	case "bound":
		l, _, e := shape.ParseBounds(rest)
		return e == api.OK && len(l) == 1
	case "rule":
		l, _, e := guard.ParseRules(rest)
		return e == api.OK && len(l) == 1
	}
	form := lineForms[word]
	return form != nil && form.MatchString(line)
}

// 9.2, P3: nothing else is read than what is written, whichever bytes are changed
func TestParseChangedBytes(t *testing.T) {
	m := toy()
	r := rand.New(rand.NewSource(12))
	cases := map[api.Errno]int{}
	signs := " \n:0123456789-+abcdelmnopstuwy.<>()_xA\x00\xff"
	for range 40000 {
		text := demoText
		for range 1 + r.Intn(2) {
			i := r.Intn(len(text))
			sign := signs[r.Intn(len(signs)):][:1]
			text = []string{text[:i] + sign + text[i+1:], text[:i] + sign + text[i:], text[:i] + text[i+1:]}[r.Intn(3)]
		}
		p, line, e := plan.Parse(m, text)
		cases[e]++
		if e == api.OK {
			same(t, "Format of what was read", plan.Format(m, p), text)
			continue
		}
		lines := strings.SplitAfter(text, "\n")
		if lines[len(lines)-1] == "" {
			lines = lines[:len(lines)-1]
		}
		wrong := slices.IndexFunc(lines, func(line string) bool { return !isLine(line) })
		if wrong >= 0 {
			lines = lines[:wrong]
		}
		if first := firstWrong(lines); first >= 0 && (wrong < 0 || first < wrong) {
			wrong = first
		}
		if e != api.ErrSyntax {
			same(t, "a line without ErrSyntax", line, 0)
			line = -1
		}
		if line != wrong || !equal(p, api.Plan{}) {
			t.Errorf("Parse of %q = %v, %d, %d, not %d", text, p, line, e, wrong)
		}
	}
	enough(t, cases, 100, api.OK, api.ErrSyntax, api.ErrInvalid, api.ErrRange, api.ErrName)
}
