package machine_test

import (
	"math/rand"
	"regexp"
	"strconv"
	"strings"
	"testing"

	"shotdesk/api"
	"shotdesk/machine"
)

// 2.5
func TestFormat(t *testing.T) {
	for text, m := range map[string]api.Machine{
		smallText:                                small(),
		"machine m\nlimit 0 0\ngrid 0 0 1 1 1\n": bare(),
		"machine z\ncoil a -60 -60 1 1 1 1 0\nshell -60 -60 1 1\nlimit -60 -60\ngrid -60 -60 1 1 1\nsensor a flux -60 -60 0\n":          least(),
		"machine m\nlimit 0 0\ngrid 0 0 1 1 1\nsensor s radial 1 2 1000000000\n":                                                        radial(),
		"machine m\ncoil c 60 -60 100 1000000 1000000 1000000000000 1000000000\nshell 0 0 1000000000 1000\nlimit 0 0\ngrid 0 0 1 1 1\n": great(),
	} {
		if s := machine.Format(m); s != text {
			t.Errorf("Format = %q, want %q", s, text)
		}
		if n, line, e := machine.Parse(text); !same(n, m) || line != 0 || e != api.OK {
			t.Errorf("Parse of %q = %v, %d, %d", text, n, line, e)
		}
	}
	for _, f := range flaws() {
		if s := machine.Format(f.m); s != "" {
			t.Errorf("%s: Format = %q", f.what, s)
		}
	}
}

func radial() api.Machine {
	m := bare()
	m.Sensors = []api.Sensor{{Name: "s", Kind: api.SRadial, R: 1, Z: 2, Error: 1e9}}
	return m
}

func great() api.Machine {
	m := bare()
	m.Coils = []api.Coil{{Name: "c", R: 60, Z: -60, Turns: 100, MaxCurrent: 1000000, MaxStep: 1000000, MaxHeat: 1e12, Cool: 1e9}}
	m.Shells = []api.Shell{{Self: 1e9, Loss: 1000}}
	return m
}

// P2.6, P3
func TestParseReadsWhatFormatWrites(t *testing.T) {
	machines := []api.Machine{small(), bare(), most(), least()}
	r := rand.New(rand.NewSource(7))
	for range 200 {
		m, _ := some(r)
		machines = append(machines, m)
	}
	for _, m := range machines {
		if n, line, e := machine.Parse(machine.Format(m)); !same(n, m) || line != 0 || e != api.OK {
			t.Errorf("Parse of the text of %v = %v, %d, %d", m, n, line, e)
		}
	}
}

func parseFails(t *testing.T, text string, line int, e api.Errno) {
	t.Helper()
	if m, n, f := machine.Parse(text); !emptyMachine(m) || n != line || f != e {
		t.Errorf("Parse of %q = %v, %d, %d, want line %d, %d", text[:min(len(text), 300)], m, n, f, line, e)
	}
}

// 2.5: each machine that is not valid, where its text has the form of lines
func TestParseFlaws(t *testing.T) {
	for what, c := range map[string]struct {
		text string
		e    api.Errno
	}{
		"name":             {"machine M\nlimit 0 0\ngrid 0 0 1 1 1\n", api.ErrInvalid},
		"name of bytes":    {"machine a\t\xff\x00\r\nlimit 0 0\ngrid 0 0 1 1 1\n", api.ErrInvalid},
		"coil's name":      {"machine m\ncoil 5 0 0 1 1 1 1 0\nlimit 0 0\ngrid 0 0 1 1 1\n", api.ErrInvalid},
		"equal coils":      {"machine m\ncoil c 0 0 1 1 1 1 0\ncoil c 0 0 1 1 1 1 0\nlimit 0 0\ngrid 0 0 1 1 1\n", api.ErrDuplicate},
		"coil's place":     {"machine m\ncoil c 0 61 1 1 1 1 0\nlimit 0 0\ngrid 0 0 1 1 1\n", api.ErrRange},
		"greatest number":  {"machine m\nshell 0 0 1000000000000000 1\nlimit 0 0\ngrid 0 0 1 1 1\n", api.ErrRange},
		"least number":     {"machine m\nshell 0 0 -1000000000000000 1\nlimit 0 0\ngrid 0 0 1 1 1\n", api.ErrRange},
		"no limits":        {"machine m\ngrid 0 0 1 1 1\n", api.ErrNone},
		"grid":             {"machine m\nlimit 0 0\ngrid 0 0 9 1 1\n", api.ErrRange},
		"sensor's name":    {"machine m\nlimit 0 0\ngrid 0 0 1 1 1\nsensor - flux 0 0 0\n", api.ErrInvalid},
		"many shells":      {"machine m\n" + strings.Repeat("shell 0 0 1 1\n", 17) + "limit 0 0\ngrid 0 0 1 1 1\n", api.ErrLimit},
		"very many shells": {"machine m\n" + strings.Repeat("shell 0 0 1 1\n", 4000) + "limit 0 0\ngrid 0 0 1 1 1\n", api.ErrLimit},
		"two flaws":        {"machine m\ncoil C 0 0 1 1 1 1 0\nlimit 0 0\ngrid 0 0 9 1 1\n", api.ErrInvalid},
	} {
		t.Run(what, func(t *testing.T) { parseFails(t, c.text, 0, c.e) })
	}
}

// 2.5: too long comes first, and 65536 bytes are not too long
func TestParseLong(t *testing.T) {
	head, tail := "machine m\n", "limit 0 0\ngrid 0 0 1 1 1\n"
	name := strings.Repeat("a", api.MaxText-len("machine \n")-len(tail))
	parseFails(t, "machine "+name+"\n"+tail, 0, api.ErrInvalid)
	parseFails(t, "machine "+name+"a\n"+tail, 0, api.ErrLong)
	parseFails(t, head+strings.Repeat(" ", api.MaxText-len(head)), 1, api.ErrSyntax)
	parseFails(t, head+strings.Repeat(" ", api.MaxText-len(head)+1), 0, api.ErrLong)
	parseFails(t, head+tail+strings.Repeat("x", api.MaxText), 0, api.ErrLong)
	parseFails(t, strings.Repeat("\n", api.MaxText), 0, api.ErrSyntax)
	parseFails(t, strings.Repeat("\n", 10*api.MaxText), 0, api.ErrLong)
}

// 2.5, Details: lines that have none of the forms
func TestParseForms(t *testing.T) {
	lines := strings.SplitAfter(smallText, "\n")
	lines = lines[:len(lines)-1]
	for i, line := range lines {
		words := strings.Split(strings.TrimSuffix(line, "\n"), " ")
		wrong := []string{
			"", " ", "x", "\x00", " " + strings.Join(words, " "), strings.Join(words, " ") + " ", strings.Join(words, "  "), strings.Join(words, "\t"),
			strings.Join(words, " ") + " 1", strings.Join(words, " ") + "\r", strings.Join(words[:len(words)-1], " "), strings.ToUpper(words[0]), words[0],
			strings.Join(words, ""), strings.Join(words[1:], " "),
		}
		for j := range words {
			others := []string{""}
			_, bad := strconv.Atoi(words[j])
			if bad == nil {
				others = append(others, "x", "+1", "01", "-01", "00", "-0", "-", "--1", "1.0", "1e1", "0x1", "1_0", "\u0661", " 1", "1 ",
					"1000000000000001", "-1000000000000001", "9223372036854775807", "-9223372036854775808", "9223372036854775808", "18446744073709551617",
					strings.Repeat("9", 1000), strings.Repeat("0", 1000))
			}
			if words[0] == "sensor" && j == 2 {
				others = append(others, "1", "Flux", "fluxx", "flu", "radial ", "verticals")
			}
			if j == 0 {
				others = append(others, "coils", "mach", "sensors", "1")
			}
			for _, other := range others {
				changed := append([]string{}, words...)
				changed[j] = other
				wrong = append(wrong, strings.Join(changed, " "))
			}
		}
		for _, w := range wrong {
			if w == strings.TrimSuffix(line, "\n") || i == 0 && w == "machine tok_1\r" {
				continue
			}
			parseFails(t, strings.Join(lines[:i], "")+w+"\n"+strings.Join(lines[i+1:], ""), i, api.ErrSyntax)
		}
	}
}

// 2.5, Details: a line feed or a line that is missing
func TestParseEnds(t *testing.T) {
	parseFails(t, "", 0, api.ErrSyntax)
	parseFails(t, "\n", 0, api.ErrSyntax)
	parseFails(t, "machine m", 0, api.ErrSyntax)
	parseFails(t, "machine m\n", 1, api.ErrSyntax)
	parseFails(t, "machine m\nlimit 0 0", 1, api.ErrSyntax)
	parseFails(t, "machine m\nlimit 0 0\n", 2, api.ErrSyntax)
	parseFails(t, "machine m\nlimit 0 0\ngrid 0 0 1 1 1", 2, api.ErrSyntax)
	parseFails(t, "machine M\nlimit 0 0\ngrid 0 0 1 1 1", 2, api.ErrSyntax)
	parseFails(t, smallText[:len(smallText)-1], 9, api.ErrSyntax)
	parseFails(t, smallText+"\n", 10, api.ErrSyntax)
	parseFails(t, smallText+" ", 10, api.ErrSyntax)
	parseFails(t, "x\n"+smallText, 0, api.ErrSyntax)
	parseFails(t, "grid 0 0 1 1 1\n", 0, api.ErrSyntax)
	parseFails(t, "machine m\nsensor a flux 0 0 0\n", 1, api.ErrSyntax)
	parseFails(t, "machine m\nlimit 0 0\nsensor a flux 0 0 0\ngrid 0 0 1 1 1\n", 2, api.ErrSyntax)
	// no line's fault is told before one that comes before it
	parseFails(t, "machine m\ncoil c\ngrid\nx", 1, api.ErrSyntax)
	parseFails(t, "coil c\nmachine m\nx", 0, api.ErrSyntax)
}

const word, number = `[^ \n]+`, `(0|-?[1-9][0-9]*)`

var (
	forms = regexp.MustCompile(`^(?:(?<M>machine ` + word + `)|(?<C>coil ` + word + `( ` + number + `){7})|` +
		`(?<S>shell( ` + number + `){4})|(?<L>limit( ` + number + `){2})|(?<G>grid( ` + number + `){5})|` +
		`(?<X>sensor ` + word + ` (flux|radial|vertical)( ` + number + `){3}))\n$`)
	order = regexp.MustCompile(`^M(C*S*L*|C*S*L*GX*)$`)
)

// expected is what the chapter says of a text: of each line its form, of their kinds the order.
func expected(text string) (line int, e api.Errno) {
	kinds := ""
	lines := strings.SplitAfter(text, "\n")
	for i, l := range lines {
		if l == "" && i == len(lines)-1 {
			break
		}
		found := forms.FindStringSubmatch(l)
		if found == nil {
			return i, api.ErrSyntax
		}
		for j, name := range forms.SubexpNames() {
			if name != "" && found[j] != "" {
				kinds += name
			}
		}
		if !order.MatchString(kinds) {
			return i, api.ErrSyntax
		}
	}
	if !strings.Contains(kinds, "G") {
		return len(kinds), api.ErrSyntax
	}
	return 0, api.OK
}

// 2.5: the orders of up to six lines
func TestParseOrder(t *testing.T) {
	kinds := []string{"machine m\n", "coil c 0 0 1 1 1 1 0\n", "shell 0 0 1 1\n", "limit 0 0\n", "grid 0 0 1 1 1\n", "sensor s flux 0 0 0\n"}
	var check func(text string, left int)
	check = func(text string, left int) {
		line, e := expected(text)
		m, n, f := machine.Parse(text)
		if e == api.ErrSyntax && (n != line || f != e || !emptyMachine(m)) {
			t.Errorf("Parse of %q = %v, %d, %d, want %d, %d", text, m, n, f, line, e)
		}
		if e == api.OK && (n != 0 || f == api.ErrSyntax || f == api.OK && machine.Format(m) != text || f != api.OK && !emptyMachine(m)) {
			t.Errorf("Parse of %q = %v, %d, %d", text, m, n, f)
		}
		if left == 0 {
			return
		}
		for _, kind := range kinds {
			check(text+kind, left-1)
		}
	}
	check("", 5)
	check("machine m\n", 5)
}

// 2.5, P3: of all texts that differ by a byte from one that Format writes, just those that Format writes are read
func TestParseChangedTexts(t *testing.T) {
	const text = "machine m\ncoil c 0 -3 1 1 1 10 0\nshell 0 0 1 1\nlimit 0 0\ngrid 0 0 1 1 1\nsensor a flux 0 0 0\nsensor b radial 0 0 0\n"
	check := func(text string) {
		line, e := expected(text)
		m, n, f := machine.Parse(text)
		if e == api.ErrSyntax && (n != line || f != e || !emptyMachine(m)) || e == api.OK && (n != 0 || f == api.ErrSyntax) {
			t.Errorf("Parse of %q = %v, %d, %d, want %d, %d", text, m, n, f, line, e)
		}
		if (f == api.OK) != (text != "" && machine.Format(m) == text) {
			t.Errorf("Parse of %q = %v, %d, %d", text, m, n, f)
		}
	}
	for i := range len(text) {
		check(text[:i] + text[i+1:])
		check(text[:i])
		for _, b := range []byte("a0129 -+\n\t.M\x00\xff") {
			check(text[:i] + string([]byte{b}) + text[i:])
			check(text[:i] + string([]byte{b}) + text[i+1:])
		}
	}
}
