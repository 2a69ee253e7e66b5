package shape_test

import (
	"math/rand"
	"regexp"
	"slices"
	"strconv"
	"strings"
	"testing"

	"shotdesk/api"
	"shotdesk/shape"
)

var sampleBounds = []api.Bound{
	{Kind: api.BRadius, Keep: sp(4000, 6000)}, {Kind: api.BHeight, Keep: sp(-500, 500)}, {Kind: api.BArea, Keep: sp(0, 64)},
	{Kind: api.BTop, Keep: sp(0, 0)}, {Kind: api.BBottom, Keep: sp(-60, -1)}, {Kind: api.BInner, Keep: sp(-api.MaxValue, api.MaxValue)},
	{Kind: api.BOuter, Keep: sp(7, 7)}, {Kind: api.BLift, Keep: sp(-10, 1)}, {Kind: api.BRadius, Keep: sp(4000, 6000)},
}

const sampleText = `radius 4000..6000
height -500..500
area 0..64
top 0..0
bottom -60..-1
inner -1000000000000000..1000000000000000
outer 7..7
lift -10..1
radius 4000..6000
`

// 6.6
func TestFormatBounds(t *testing.T) {
	same(t, "FormatBounds", shape.FormatBounds(sampleBounds), sampleText)
	same(t, "FormatBounds of nothing", shape.FormatBounds(nil), "")
	for _, b := range []api.Bound{{}, {Kind: 9}, {Kind: -1}, {Kind: wild[5]}, {Kind: api.BTop, Keep: sp(1, 0)}, {Kind: api.BTop, Keep: sp(0, api.MaxValue+1)}} {
		same(t, "FormatBounds of a wrong bound", shape.FormatBounds([]api.Bound{b}), "")
		same(t, "FormatBounds of a wrong bound", shape.FormatBounds(append(slices.Clone(sampleBounds), b)), "")
	}
	same(t, "FormatBounds of 16", shape.FormatBounds(slices.Repeat(sampleBounds[6:7], 16)), strings.Repeat("outer 7..7\n", 16))
	same(t, "FormatBounds of 17", shape.FormatBounds(slices.Repeat(sampleBounds[6:7], 17)), "")
}

// parses checks that bounds are read from a text.
func parses(t *testing.T, text string, want ...api.Bound) {
	t.Helper()
	if l, line, e := shape.ParseBounds(text); !slices.Equal(l, want) || line != 0 || e != api.OK {
		t.Errorf("ParseBounds of %q = %v, %d, %d", text, l, line, e)
	}
}

// parseFails checks that an error comes alone.
func parseFails(t *testing.T, text string, line int, e api.Errno) {
	t.Helper()
	if l, n, f := shape.ParseBounds(text); len(l) != 0 || n != line || f != e {
		t.Errorf("ParseBounds of %q = %v, %d, %d, not line %d, %d", text[:min(len(text), 200)], l, n, f, line, e)
	}
}

// 6.6
func TestParseBounds(t *testing.T) {
	parses(t, sampleText, sampleBounds...)
	parses(t, "")
	parses(t, "top -5..12\n", api.Bound{Kind: api.BTop, Keep: sp(-5, 12)})
	parses(t, strings.Repeat("lift 0..0\n", 16), slices.Repeat([]api.Bound{{Kind: api.BLift}}, 16)...)
}

// P6.6, P3
func TestParseReadsWhatFormatWrites(t *testing.T) {
	r := rand.New(rand.NewSource(8))
	for range 2000 {
		l := someBounds(r)
		parses(t, shape.FormatBounds(l), l...)
	}
	longest := slices.Repeat([]api.Bound{{Kind: api.BRadius, Keep: sp(-api.MaxValue, -api.MaxValue)}}, 16)
	parses(t, shape.FormatBounds(longest), longest...)
}

// someBounds returns random bounds.
func someBounds(r *rand.Rand) []api.Bound {
	var l []api.Bound
	for range r.Intn(17) {
		a, b := (r.Intn(2*api.MaxValue+1)-api.MaxValue)>>r.Intn(50), (r.Intn(2*api.MaxValue+1)-api.MaxValue)>>r.Intn(50)
		l = append(l, api.Bound{Kind: 1 + r.Intn(8), Keep: sp(min(a, b), max(a, b))})
	}
	return l
}

// 6.6 and Details
func TestParseErrors(t *testing.T) {
	long := strings.Repeat("x", api.MaxText+1)
	parseFails(t, long, 0, api.ErrLong)
	parseFails(t, long[1:], 0, api.ErrSyntax)
	parseFails(t, strings.Repeat("lift 0..0\n", 7000), 0, api.ErrLong)
	parseFails(t, sampleText+strings.Repeat("\n", api.MaxText+1-len(sampleText)), 0, api.ErrLong)
	parseFails(t, sampleText+strings.Repeat("\n", api.MaxText-len(sampleText)), 9, api.ErrSyntax)
	// a missing line feed, and an empty line
	parseFails(t, sampleText[:len(sampleText)-1], 8, api.ErrSyntax)
	parseFails(t, "lift 0..0", 0, api.ErrSyntax)
	parseFails(t, "\n", 0, api.ErrSyntax)
	parseFails(t, sampleText+"\n", 9, api.ErrSyntax)
	// the first wrong line counts
	parseFails(t, "top 0..0\nx\ny\n", 1, api.ErrSyntax)
	parseFails(t, "x\ntop 0..0\n", 0, api.ErrSyntax)
	// a 17th line
	sixteen := strings.Repeat("lift 0..0\n", 16)
	parseFails(t, sixteen+"lift 0..0\n", 16, api.ErrSyntax)
	parseFails(t, sixteen+"l", 16, api.ErrSyntax)
	parseFails(t, sixteen+"\n", 16, api.ErrSyntax)
	parseFails(t, strings.Repeat(sixteen, 400), 16, api.ErrSyntax)
	parseFails(t, sixteen[:len(sixteen)-1], 15, api.ErrSyntax)
	for _, text := range []string{
		"", " ", "top", "top ", "top 0", "top 0..", "top ..0", "top ..", "top 0.0", "top 0...0", "top 0. .0", "top 0 0", "top 0 ..0", "top 0.. 0",
		" top 0..0", "top  0..0", "top\t0..0", "top 0..0 ", "top 0..0 0", "top 0..0..0", "top 0..0\r", "top 0..0\x00", "top0..0", "top\u00a00..0",
		"Top 0..0", "TOP 0..0", "to 0..0", "tops 0..0", "width 0..0", "0..0", " 0..0", "4 0..0", "0..0 top", "top,0..0",
		"top 1..0", "top -1..-2", "top -0..0", "top 0..-0", "top +0..1", "top 0..+1", "top 00..1", "top 0..01", "top --1..0", "top - 1..0",
		"top 0..1000000000000001", "top -1000000000000001..0", "top 0..99999999999999999999", "top -99999999999999999999..0",
		"top 0x0..1", "top 0..1e3", "top 1_0..20", "top 0..1.5", "top a..b", "top top 0..0", "bound top 0..0",
	} {
		parseFails(t, text+"\n", 0, api.ErrSyntax)
		parseFails(t, sampleText+text+"\n", 9, api.ErrSyntax)
		parseFails(t, sampleText+text+"\n"+sampleText, 9, api.ErrSyntax)
	}
}

var lineForm = regexp.MustCompile(`^(?:radius|height|area|top|bottom|inner|outer|lift) (0|-?[1-9][0-9]{0,15})\.\.(0|-?[1-9][0-9]{0,15})\n$`)

// expected is what the chapter says of a text that is not too long.
func expected(text string) (line int, e api.Errno) {
	for i, l := range strings.SplitAfter(text, "\n") {
		if l == "" && i == strings.Count(text, "\n") {
			break
		}
		f := lineForm.FindStringSubmatch(l)
		if f == nil || i == 16 {
			return i, api.ErrSyntax
		}
		lo, _ := strconv.Atoi(f[1])
		hi, _ := strconv.Atoi(f[2])
		if lo > hi || lo < -api.MaxValue || hi > api.MaxValue {
			return i, api.ErrSyntax
		}
	}
	return 0, api.OK
}

// 6.6, P3: of all texts that differ by a byte from one that FormatBounds writes, just those that it writes are read
func TestParseChangedBounds(t *testing.T) {
	const text = "radius 0..1000000000000000\nlift -1000000000000000..-100\ntop 10..20\ninner -5..5\n"
	read := 0
	check := func(text string) {
		line, e := expected(text)
		l, n, f := shape.ParseBounds(text)
		if n != line || f != e || e != api.OK && len(l) != 0 || e == api.OK && shape.FormatBounds(l) != text {
			t.Errorf("ParseBounds of %q = %v, %d, %d, not %d, %d", text, l, n, f, line, e)
		}
		if e == api.OK {
			read++
		}
	}
	for i := range len(text) {
		check(text[:i] + text[i+1:])
		check(text[:i])
		for _, b := range []byte("adt0129 -+\n\t.\x00\xff_") {
			check(text[:i] + string([]byte{b}) + text[i:])
			check(text[:i] + string([]byte{b}) + text[i+1:])
		}
	}
	if read < 50 {
		t.Errorf("too few cases: %d", read)
	}
}
