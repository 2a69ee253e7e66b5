package span_test

import (
	"math"
	"regexp"
	"strconv"
	"strings"
	"testing"

	"shotdesk/api"
	"shotdesk/span"
)

// 1.5
func TestFormat(t *testing.T) {
	for text, a := range map[string]api.Span{
		"-5..12": s(-5, 12), "0..0": s(0, 0), "7..7": s(7, 7), "-10..-3": s(-10, -3), "100..2000": s(100, 2000),
		"-1000000000000000..1000000000000000": s(-most, most),
	} {
		if span.Format(a) != text {
			t.Errorf("Format of %v = %q", a, span.Format(a))
		}
		ok(t, "Parse", a)(span.Parse(text))
	}
	for _, a := range invalid() {
		if span.Format(a) != "" {
			t.Errorf("Format of %v = %q", a, span.Format(a))
		}
	}
}

// 1.5
func TestParseErrors(t *testing.T) {
	for _, bad := range []string{
		"", ".", "..", "...", "1", "1..", "..1", "1.2", "1 .. 2", "1...2", "1....2", "1..2..3", "1..2.", ".1..2",
		"2..1", "0..-1", "01..2", "1..02", "00..1", "-01..2", "+1..2", "1..+2", "-0..1", "-1..-0", "--1..2", "-..2", "1..-",
		" 1..2", "1..2 ", "1..2\n", "\x001..2", "1..2\x00", "1_0..20", "0x1..2", "1e1..20", "1,0..20", "1:2", "1..2a", "a..2",
		"0..1000000000000001", "-1000000000000001..0", "1000000000000001..1000000000000001",
		"0..9223372036854775807", "-9223372036854775808..0", "0..18446744073709551616", "18446744073709551616..18446744073709551617",
		"\u0661..\u0662", "1\u20252", "1..2\xff", "\ufeff1..2",
		strings.Repeat("9", 100000) + "..1", "1.." + strings.Repeat("9", 100000), strings.Repeat("0", 100000) + "1..2", strings.Repeat(".", 100000),
	} {
		fails(t, "Parse of "+strconv.Quote(bad[:min(len(bad), 50)]), api.ErrSyntax)(span.Parse(bad))
	}
}

// 1.5: of all short texts, just those that Format writes are read
func TestParseAllShortTexts(t *testing.T) {
	number := `(0|-?[1-9][0-9]*)`
	grammar := regexp.MustCompile(`^` + number + `\.\.` + number + `$`)
	var check func(text string)
	check = func(text string) {
		a, e := span.Parse(text)
		if m := grammar.FindStringSubmatch(text); m != nil {
			lo, _ := strconv.Atoi(m[1])
			hi, _ := strconv.Atoi(m[2])
			if lo <= hi {
				if a != s(lo, hi) || e != api.OK {
					t.Errorf("Parse of %q = %v, %d", text, a, e)
				}
				e = api.ErrSyntax
			}
		}
		if e != api.ErrSyntax {
			t.Errorf("Parse of %q = %v, %d", text, a, e)
		}
		if len(text) < 7 {
			for _, b := range []byte("012.-") {
				check(text + string(b))
			}
		}
	}
	check("")
}

// P1.6
func TestParseReadsWhatFormatWrites(t *testing.T) {
	numbers := []int{0}
	for n := 1; n < most; n *= 7 {
		numbers = append(numbers, n, -n, most-n, n-most)
	}
	numbers = append(numbers, most, -most)
	for _, lo := range numbers {
		for _, hi := range numbers {
			if a := s(lo, hi); lo <= hi {
				ok(t, "Parse of "+span.Format(a), a)(span.Parse(span.Format(a)))
			}
		}
	}
	fails(t, "Parse", api.ErrSyntax)(span.Parse(span.Format(s(math.MinInt, 0))))
}
