package guard_test

import (
	"math/rand"
	"regexp"
	"slices"
	"strings"
	"testing"

	"shotdesk/api"
	"shotdesk/guard"
)

// texts are conditions as FormatCond writes them.
func texts() map[string]api.Cond {
	a, b, c := less("a", 1), more("b", -2), from("c", -3, 4)
	return map[string]api.Cond{
		"a < 1": a, "b > -2": b, "c from -3 to 4": c, "c from 0 to 0": from("c", 0, 0),
		"a < 1000000000000000": less("a", api.MaxValue), "a > -1000000000000000": more("a", -api.MaxValue),
		"a from -1000000000000000 to 1000000000000000": from("a", -api.MaxValue, api.MaxValue),
		"abcdefghijklmnop < 0":                         less("abcdefghijklmnop", 0), "run < 0": less("run", 0),
		"not a < 1": not(a), "not not b > -2": not(not(b)), "not not not c from -3 to 4": not(not(not(c))),
		"a < 1 and b > -2": and(a, b), "a < 1 or b > -2": or(a, b),
		"a < 1 and b > -2 and c from -3 to 4 and a < 1": and(a, b, c, a), "a < 1 or b > -2 or c from -3 to 4 or a < 1": or(a, b, c, a),
		// each kind in each other one
		"( a < 1 and b > -2 ) and c from -3 to 4": and(and(a, b), c), "a < 1 and ( b > -2 and c from -3 to 4 )": and(a, and(b, c)),
		"( a < 1 or b > -2 ) and c from -3 to 4": and(or(a, b), c), "a < 1 and ( b > -2 or c from -3 to 4 )": and(a, or(b, c)),
		"not a < 1 and b > -2": and(not(a), b), "a < 1 and not b > -2": and(a, not(b)),
		"a < 1 and b > -2 or c from -3 to 4": or(and(a, b), c), "a < 1 or b > -2 and c from -3 to 4": or(a, and(b, c)),
		"( a < 1 or b > -2 ) or c from -3 to 4": or(or(a, b), c), "a < 1 or ( b > -2 or c from -3 to 4 )": or(a, or(b, c)),
		"not a < 1 or b > -2": or(not(a), b), "a < 1 or not b > -2": or(a, not(b)),
		"not ( a < 1 and b > -2 )": not(and(a, b)), "not ( a < 1 or b > -2 )": not(or(a, b)),
		"not not ( a < 1 or b > -2 )":                                                   not(not(or(a, b))),
		"not ( not a < 1 or not b > -2 )":                                               not(or(not(a), not(b))),
		"not ( a < 1 and b > -2 ) and a < 1":                                            and(not(and(a, b)), a),
		"a < 1 and b > -2 or a < 1 and b > -2":                                          or(and(a, b), and(a, b)),
		"( a < 1 or b > -2 ) and ( a < 1 or a < 1 )":                                    and(or(a, b), or(a, a)),
		"( a < 1 and ( b > -2 or not ( a < 1 and a < 1 ) ) ) and a < 1 or a < 1":        or(and(and(a, or(b, not(and(a, a)))), a), a),
		"a < 1 or ( b > -2 and ( a < 1 or a < 1 ) or a < 1 and ( b > -2 and b > -2 ) )": or(a, or(and(b, or(a, a)), and(a, and(b, b)))),
	}
}

// 8.1, P8.6
func TestCondTexts(t *testing.T) {
	for text, c := range texts() {
		same(t, "FormatCond", guard.FormatCond(c), text)
		is(t, "ParseCond of "+text, c)(guard.ParseCond(text))
	}
}

// 8.1: what is read is more than what is written
func TestReadMore(t *testing.T) {
	a, b, c := less("a", 1), more("b", -2), from("c", -3, 4)
	for text, want := range map[string]api.Cond{
		" a < 1": a, "a < 1 ": a, "   a   <  1     ": a, "( a < 1 )": a, " (  a  < 1  ) ": a, "( ( ( c from  -3 to 4 ) ) )": c,
		"not ( a < 1 )": not(a), "( not a < 1 )": not(a), "not ( not ( a < 1 ) )": not(not(a)), "not  not   a < 1": not(not(a)),
		"( a < 1 and b > -2 )": and(a, b), "( a < 1 ) and ( b > -2 )": and(a, b), "( ( a < 1 or b > -2 ) )": or(a, b),
		"( a < 1 and b > -2 ) or c from -3 to 4": or(and(a, b), c), "a < 1 or ( b > -2 and c from -3 to 4 )": or(a, and(b, c)),
		"( not a < 1 ) and b > -2": and(not(a), b), "not ( a < 1 ) and b > -2": and(not(a), b), "not ( ( a < 1 and b > -2 ) )": not(and(a, b)),
		"( ( a < 1 and b > -2 ) ) and c from -3 to 4": and(and(a, b), c), "not a < 1 or not b > -2 and not a < 1": or(not(a), and(not(b), not(a))),
		"a < 1 and b > -2 or c from -3 to 4 and a < 1 or b > -2": or(and(a, b), and(c, a), b),
	} {
		is(t, "ParseCond of "+text, want)(guard.ParseCond(text))
	}
}

// wrongTexts are no conditions.
func wrongTexts() []string {
	l := []string{
		"", " ", "a", "a <", "< 1", "a 1", "1 < a", "a < b", "1 < 2", "a < 1 2", "a < 1 b", "a a < 1", "a < < 1", "a <1", "a< 1", "a<1", "a = 1", "a <= 1", "a != 1",
		"a from", "a from 1", "a from 1 to", "a from to 2", "a 1 to 2", "a from 1 2", "a from 1 to 2 to 3", "a to 1 from 2", "a from 1..2", "a from 2 to 1", "a from 1 to b",
		"a from -1 to -2", "a from 1000000000000000 to -1000000000000000", "not", "not not", "not and", "a not < 1", "a < not 1", "a < 1 not", "a < 1 not b < 1", "not a",
		"and", "or", "a < 1 and", "and a < 1", "a < 1 or", "or a < 1", "a < 1 and and b < 1", "a < 1 or or b < 1", "a < 1 and or b < 1", "a < 1 b < 1", "a < 1 & b < 1",
		"(", ")", "( )", "()", ") (", "( a < 1", "a < 1 )", "( a < 1 ) )", "( ( a < 1 )", "(a < 1)", "( a < 1)", "(a < 1 )", "( a ) < 1", "a < ( 1 )", "( a < 1 ) b < 1", "( a < 1 ) ( b < 1 )",
		"a ( < 1 )", "a < 1 ( and b < 1 )", "( a < 1 and ) b < 1", "[ a < 1 ]", "a < 1;", "a < 1.", "a < 1,",
		"a < 01", "a < +1", "a < -0", "a < --1", "a < - 1", "a < 1.0", "a < 1e3", "a < 0x1", "a < 1_000", "a < 00", "a < -01", "a < -", "a < +",
		"a < 1000000000000001", "a > -1000000000000001", "a from 0 to 1000000000000001", "a from -1000000000000001 to 0", "a < 9223372036854775808", "a < 99999999999999999999999",
		"A < 1", "a-b < 1", "1a < 1", "_a < 1", "abcdefghijklmnopq < 1", "ä < 1", "a\t<\t1", "a < 1\n", "\na < 1", "a\n< 1", "a < 1\r", "a < 1\x00", "a\u00a0< 1", "a < 1\t", "\ta < 1", "a < \u0661", "a \xff < 1",
		"AND < 1", "a < 1 AND b < 1", "NOT a < 1", "a FROM 1 TO 2", "a when < 1", "a < 1 for 2",
	}
	for _, word := range reserved {
		l = append(l, word+" < 1", word+" > 1", word+" from 1 to 2", "not "+word+" < 1", "a < 1 and "+word+" < 1", "( "+word+" < 1 )")
	}
	return l
}

// 8.1
func TestWrongTexts(t *testing.T) {
	for _, text := range wrongTexts() {
		fails[api.Cond](t, "ParseCond of "+text, api.ErrSyntax)(guard.ParseCond(text))
		fails[api.Cond](t, "ParseCond of it in brackets", api.ErrSyntax)(guard.ParseCond("( " + text + " )"))
		fails[api.Cond](t, "ParseCond of it behind not", api.ErrSyntax)(guard.ParseCond("a < 1 or not not " + text))
	}
}

// 8.1: ErrLong, and ErrLimit only where the whole text is a condition
func TestLongTexts(t *testing.T) {
	sixtyFour := "( " + strings.Repeat("a < 1 and ", 62) + "a < 1 )"
	is(t, "ParseCond of 64 nodes", and(slices.Repeat([]api.Cond{less("a", 1)}, 63)...))(guard.ParseCond(sixtyFour))
	fails[api.Cond](t, "ParseCond of 65 nodes", api.ErrLimit)(guard.ParseCond(sixtyFour + " or a < 1"))
	fails[api.Cond](t, "ParseCond of 65 nodes", api.ErrLimit)(guard.ParseCond("not " + sixtyFour))
	fails[api.Cond](t, "ParseCond of 65 nodes", api.ErrLimit)(guard.ParseCond(strings.Repeat("a < 1 or ", 63) + "a < 1"))
	fails[api.Cond](t, "ParseCond of 64 nots", api.ErrLimit)(guard.ParseCond(strings.Repeat("not ", 64) + "a < 1"))
	is(t, "ParseCond of 63 nots", chain(63))(guard.ParseCond(strings.Repeat("not ", 63) + "a > 0"))
	fails[api.Cond](t, "ParseCond of 65 nodes and more", api.ErrSyntax)(guard.ParseCond(sixtyFour + " or a < 1 )"))
	fails[api.Cond](t, "ParseCond of 65 nodes and more", api.ErrSyntax)(guard.ParseCond(sixtyFour + " or a < 1 or"))
	for _, part := range []string{"not ", "( ", ") ", "a < 1 and ", "a < 1 or ", "a ", "( a < 1 ) ", "not ( "} {
		long := strings.Repeat(part, api.MaxText/len(part)-2)
		fails[api.Cond](t, "ParseCond of many "+part, api.ErrSyntax)(guard.ParseCond(long))
		fails[api.Cond](t, "ParseCond of too many "+part, api.ErrLong)(guard.ParseCond(long + strings.Repeat(" ", api.MaxText+1-len(long))))
	}
	for _, part := range []string{"not ", "a < 1 and ", "a < 1 or ", "( a < 1 ) or "} {
		long := strings.Repeat(part, (api.MaxText-5)/len(part)) + "a < 1"
		fails[api.Cond](t, "ParseCond of many "+part, api.ErrLimit)(guard.ParseCond(long))
		fails[api.Cond](t, "ParseCond of many "+part, api.ErrSyntax)(guard.ParseCond(long[:len(long)-1]))
	}
	// brackets and blanks are no nodes
	deep := (api.MaxText - 5) / 4
	is(t, "ParseCond of many brackets", less("a", 1))(guard.ParseCond(strings.Repeat("( ", deep) + "a < 1" + strings.Repeat(" )", deep)))
	fails[api.Cond](t, "ParseCond of a bracket too few", api.ErrSyntax)(guard.ParseCond(strings.Repeat("( ", deep) + "a < 1" + strings.Repeat(" )", deep-1)))
	is(t, "ParseCond of many blanks", less("a", 1))(guard.ParseCond("a < 1" + strings.Repeat(" ", api.MaxText-5)))
	fails[api.Cond](t, "ParseCond of too many blanks", api.ErrLong)(guard.ParseCond("a < 1" + strings.Repeat(" ", api.MaxText-4)))
	fails[api.Cond](t, "ParseCond of too much", api.ErrLong)(guard.ParseCond(strings.Repeat("x", api.MaxText+1)))
	fails[api.Cond](t, "ParseCond of much", api.ErrSyntax)(guard.ParseCond(strings.Repeat("x", api.MaxText)))
}

// P8.6, P3: what is written is read, also with more blanks and brackets
func TestParseCondReadsFormatCond(t *testing.T) {
	r := rand.New(rand.NewSource(6))
	for range 3000 {
		c := someCond(r, 1+r.Intn(api.MaxNodes))
		text := guard.FormatCond(c)
		is(t, "ParseCond of "+text, c)(guard.ParseCond(text))
		is(t, "ParseCond of loose words of "+text, c)(guard.ParseCond(loose(r, c)))
	}
	for what, c := range validConds() {
		if what != "empty kids" {
			is(t, "ParseCond of "+what, c)(guard.ParseCond(guard.FormatCond(c)))
		}
	}
	long := and(slices.Repeat([]api.Cond{from("abcdefghijklmnop", -api.MaxValue, -api.MaxValue)}, 63)...)
	is(t, "ParseCond of the longest condition", long)(guard.ParseCond(guard.FormatCond(long)))
}

// loose writes a condition with brackets around each part that may have them, and blanks as they come.
func loose(r *rand.Rand, c api.Cond) string {
	blanks := func() string { return strings.Repeat(" ", 1+r.Intn(3)) }
	text := ""
	switch c.Op {
	case api.CAnd, api.COr:
		word := map[int]string{api.CAnd: "and", api.COr: "or"}[c.Op]
		for i, kid := range c.Kids {
			if i > 0 {
				text += blanks() + word + blanks()
			}
			text += loose(r, kid)
		}
		return "(" + blanks() + text + blanks() + ")"
	case api.CNot:
		text = "not" + blanks() + loose(r, c.Kids[0])
	default:
		text = strings.Join(strings.Fields(guard.FormatCond(c)), blanks())
	}
	if r.Intn(3) == 0 {
		text = "(" + blanks() + text + blanks() + ")"
	}
	return text
}

var (
	comparison = regexp.MustCompile(`^([a-z][a-z0-9_]{0,15}) (?:[<>] (?:0|-?[1-9][0-9]{0,14})|from (?:0|-?[1-9]) to (?:0|-?[1-9])) `)
	reducible  = regexp.MustCompile(`^(.*)(?:not X|\( X \)|X and X|X or X) (.*)$`)
)

// isCond reports whether words that are separated by single blanks are a condition, by putting X for what is one, again and again.
func isCond(text string) bool {
	rest, reduced := text+" ", ""
	for rest != "" {
		if word, after, _ := strings.Cut(rest, " "); slices.Contains([]string{"and", "or", "not", "(", ")"}, word) {
			reduced, rest = reduced+word+" ", after
			continue
		}
		found := comparison.FindStringSubmatch(rest)
		if found == nil || slices.Contains(reserved, found[1]) {
			return false
		}
		reduced, rest = reduced+"X ", rest[len(found[0]):]
	}
	for {
		found := reducible.FindStringSubmatch(reduced)
		if found == nil {
			return reduced == "X "
		}
		reduced = found[1] + "X " + found[2]
	}
}

// 8.1, P3: of random words, just the conditions are read
func TestRandomWords(t *testing.T) {
	r := rand.New(rand.NewSource(7))
	list := []string{"a < 1", "b > -2", "c from 1 to 2", "a < 1", "and", "or", "and", "not", "(", ")", "and", "or", "a", "<", "from", "to", "1", "off < 1"}
	count := map[bool]int{}
	for range 200000 {
		var words []string
		for i := range 1 + r.Intn(9) {
			// words that may well follow each other
			word := list[r.Intn(12)]
			if r.Intn(4) > 0 {
				word = list[[]int{r.Intn(4), 4 + r.Intn(3)}[i%2]]
			}
			if r.Intn(50) == 0 {
				word = list[r.Intn(len(list))]
			}
			words = append(words, word)
		}
		text := strings.Join(words, " ")
		want := isCond(text)
		count[want]++
		c, e := guard.ParseCond(text)
		if want != (e == api.OK) || want != guard.ValidCond(c) || !want && e != api.ErrSyntax {
			t.Errorf("ParseCond of %s = %v, %d", text, c, e)
		}
	}
	if count[true] < 10000 || count[false] < 10000 {
		t.Errorf("too few cases: %v", count)
	}
}
