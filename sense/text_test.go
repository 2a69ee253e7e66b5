package sense_test

import (
	"math/rand"
	"regexp"
	"slices"
	"strconv"
	"strings"
	"testing"

	"shotdesk/api"
	"shotdesk/sense"
)

var toyFaults = []api.Fault{
	{At: 0, Sensor: 0, Kind: api.FOffset, N: -50}, {At: 1000000000, Sensor: 3, Kind: api.FGain, N: 1100}, {At: 7, Sensor: 1, Kind: api.FCut},
	{At: 7, Sensor: 2, Kind: api.FOffset, N: api.MaxValue}, {At: 10, Sensor: 2, Kind: api.FGain, N: -100000}, {At: 7, Sensor: 1, Kind: api.FCut}, {Kind: api.FGain},
}

const toyText = `offset 0 a -50
gain 1000000000 d 1100
cut 7 b2
offset 7 c_ 1000000000000000
gain 10 c_ -100000
cut 7 b2
gain 0 a 0
`

// 4.5
func TestFormatFaults(t *testing.T) {
	if s := sense.FormatFaults(toy(), toyFaults); s != toyText {
		t.Errorf("FormatFaults = %q", s)
	}
	for _, l := range append(brokenFaults(), nil, []api.Fault{}) {
		if s := sense.FormatFaults(toy(), l); s != "" {
			t.Errorf("FormatFaults of %v = %q", l, s)
		}
	}
	for _, m := range brokenMachines() {
		if s := sense.FormatFaults(m, []api.Fault{{Kind: api.FCut}}); s != "" {
			t.Errorf("FormatFaults without a machine = %q", s)
		}
	}
}

// 4.5
func TestParseFaults(t *testing.T) {
	if l, line, e := sense.ParseFaults(toy(), toyText); !slices.Equal(l, toyFaults) || line != 0 || e != api.OK {
		t.Errorf("ParseFaults = %v, %d, %d", l, line, e)
	}
	if l, line, e := sense.ParseFaults(toy(), ""); len(l) != 0 || line != 0 || e != api.OK {
		t.Errorf("ParseFaults of nothing = %v, %d, %d", l, line, e)
	}
	if l, line, e := sense.ParseFaults(bare(), ""); len(l) != 0 || line != 0 || e != api.OK {
		t.Errorf("ParseFaults of nothing for no sensors = %v, %d, %d", l, line, e)
	}
}

// P4.6, P3
func TestParseReadsWhatFormatWrites(t *testing.T) {
	r := rand.New(rand.NewSource(13))
	for range 500 {
		m, _ := some(r, r.Intn(5))
		l := someFaults(r, m)
		if got, line, e := sense.ParseFaults(m, sense.FormatFaults(m, l)); !slices.Equal(got, l) || line != 0 || e != api.OK {
			t.Errorf("ParseFaults of the text of %v = %v, %d, %d", l, got, line, e)
		}
	}
	// the longest text
	m := toy()
	m.Sensors[1].Name = "abcdefghijklmnop"
	l := slices.Repeat([]api.Fault{{At: lastTick, Sensor: 1, Kind: api.FOffset, N: -api.MaxValue}}, api.MaxFaults)
	if got, line, e := sense.ParseFaults(m, sense.FormatFaults(m, l)); !slices.Equal(got, l) || line != 0 || e != api.OK {
		t.Errorf("ParseFaults of the longest text = %v, %d, %d", got, line, e)
	}
}

func parseFails(t *testing.T, m api.Machine, text string, line int, e api.Errno) {
	t.Helper()
	if l, n, f := sense.ParseFaults(m, text); len(l) != 0 || n != line || f != e {
		t.Errorf("ParseFaults of %q = %v, %d, %d, want line %d, %d", text[:min(len(text), 200)], l, n, f, line, e)
	}
}

// 4.5 and Details
func TestParseFaultsErrors(t *testing.T) {
	long := strings.Repeat("x", api.MaxText+1)
	for _, m := range brokenMachines() {
		for _, text := range []string{"", "cut 0 a\n", "x", long} {
			parseFails(t, m, text, 0, api.ErrInvalid)
		}
	}
	parseFails(t, toy(), long, 0, api.ErrLong)
	parseFails(t, toy(), long[1:], 0, api.ErrSyntax)
	parseFails(t, toy(), toyText+strings.Repeat("\n", api.MaxText+1-len(toyText)), 0, api.ErrLong)
	parseFails(t, toy(), toyText+strings.Repeat("\n", api.MaxText-len(toyText)), 7, api.ErrSyntax)
	parseFails(t, toy(), toyText[:len(toyText)-1], 6, api.ErrSyntax)
	parseFails(t, toy(), toyText+"\n", 7, api.ErrSyntax)
	parseFails(t, toy(), "cut 0 a", 0, api.ErrSyntax)
	parseFails(t, toy(), "cut 0 a\nx\ny\n", 1, api.ErrSyntax)
	parseFails(t, toy(), strings.Repeat("cut 0 a\n", 32)+"cut 0 a\n", 32, api.ErrSyntax)
	parseFails(t, toy(), strings.Repeat("cut 0 a\n", 5000), 32, api.ErrSyntax)
	parseFails(t, toy(), strings.Repeat("cut 0 a\n", 31)+"cut 0 a", 31, api.ErrSyntax)
	parseFails(t, toy(), strings.Repeat("cut 0 a\n", 32)+"c", 32, api.ErrSyntax)
	if l, line, e := sense.ParseFaults(toy(), strings.Repeat("cut 0 a\n", 32)); len(l) != 32 || line != 0 || e != api.OK {
		t.Errorf("ParseFaults of 32 faults = %v, %d, %d", l, line, e)
	}
	parseFails(t, bare(), "cut 0 a\n", 0, api.ErrSyntax)
	for _, text := range []string{
		"", " ", "cut", "cut 0", "cut 0 ", "cut 0 e", "cut 0 A", "cut 0 a 0", "cut 0 a ", " cut 0 a", "cut  0 a", "cut 0  a", "cut\t0 a", "cut 0 a\r", "cut 0 a\x00",
		"Cut 0 a", "cuts 0 a", "a", "0", "cut a 0", "a cut 0", "cut -1 a", "cut -0 a", "cut 00 a", "cut +1 a", "cut 01 a", "cut 1000000001 a", "cut 1e3 a",
		"cut 99999999999999999999 a", "cut x a", "cut 0x1 a", "cut 1_0 a", "cut 0 b", "cut 0 b22", "cut 0 0",
		"offset 0 a", "offset 0 a ", "offset 0 a x", "offset 0 a 1 2", "offset 0 a 1 ", "offset 0 a -0", "offset 0 a +1", "offset 0 a 01", "offset 0 a --1",
		"offset 0 a 1000000000000001", "offset 0 a -1000000000000001", "offset 0 a 99999999999999999999", "offset 0 a -99999999999999999999", "offset a 0 1",
		"gain 0 a", "gain 0 a 100001", "gain 0 a -100001", "gain 0 a 1.5", "gain 0 e 1", "gain -1 a 1", "gain 1000000001 a 1", "gain 0 a 1\v", "gain\u00a00 a 1",
		" 0 a 0", " 0 a", "offset  a 0", "offset 0  0",
	} {
		parseFails(t, toy(), text+"\n", 0, api.ErrSyntax)
		parseFails(t, toy(), toyText+text+"\n", 7, api.ErrSyntax)
		parseFails(t, toy(), toyText+text+"\n"+toyText, 7, api.ErrSyntax)
	}
}

var lineForm = regexp.MustCompile(`^(?:(offset|gain) (0|[1-9][0-9]{0,9}) (a|b2|c_|d) (0|-?[1-9][0-9]{0,15})|(cut) (0|[1-9][0-9]{0,9}) (a|b2|c_|d))\n$`)

// expected is what the chapter says of a short text.
func expected(text string) (line int, e api.Errno) {
	lines := strings.SplitAfter(text, "\n")
	for i, l := range lines {
		if l == "" && i == len(lines)-1 {
			break
		}
		f := lineForm.FindStringSubmatch(l)
		if f == nil {
			return i, api.ErrSyntax
		}
		at, _ := strconv.Atoi(f[2] + f[6])
		n, _ := strconv.Atoi(f[4] + "")
		most := map[string]int{"offset": api.MaxValue, "gain": 100000}[f[1]]
		if at > lastTick || n > most || n < -most {
			return i, api.ErrSyntax
		}
	}
	return 0, api.OK
}

// 4.5, P3: of all texts that differ by a byte from one that FormatFaults writes, just those that it writes are read
func TestParseChangedFaults(t *testing.T) {
	const text = "offset 0 a -50\ngain 1000000000 d 100000\ncut 7 b2\noffset 10 c_ 1000000000000000\ncut 70 a\ngain 0 a -1\n"
	check := func(text string) {
		line, e := expected(text)
		l, n, f := sense.ParseFaults(toy(), text)
		if n != line || f != e || e != api.OK && len(l) != 0 || e == api.OK && sense.FormatFaults(toy(), l) != text {
			t.Errorf("ParseFaults of %q = %v, %d, %d, want %d, %d", text, l, n, f, line, e)
		}
	}
	for i := range len(text) {
		check(text[:i] + text[i+1:])
		check(text[:i])
		for _, b := range []byte("abd0129 -+\n\t.\x00\xff_") {
			check(text[:i] + string([]byte{b}) + text[i:])
			check(text[:i] + string([]byte{b}) + text[i+1:])
		}
	}
}
