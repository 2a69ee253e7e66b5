package desk_test

import (
	"math"
	"math/rand"
	"regexp"
	"slices"
	"strings"
	"testing"

	"shotdesk/api"
	"shotdesk/desk"
)

// scenes are scenes for the toy, and whether they are valid.
func scenes() map[bool][]api.Scene {
	push := func(at, coil, change int) api.Scene {
		return api.Scene{Pushes: []api.Push{{}, {At: at, Coil: coil, Change: change}}}
	}
	fault := func(f api.Fault) api.Scene {
		return api.Scene{Faults: []api.Fault{{Kind: api.FCut}, f}}
	}
	cut := api.Fault{Kind: api.FCut}
	l := map[bool][]api.Scene{
		true: {
			{}, {Seed: 1}, {Seed: math.MaxUint32}, {Faults: []api.Fault{}, Pushes: []api.Push{}}, stormy(),
			push(0, 0, 0), push(400, 1, 0), push(0, 1, api.MaxAmp), push(0, 0, -api.MaxAmp),
			{Pushes: make([]api.Push, 32)}, {Faults: slices.Repeat([]api.Fault{cut}, 32)}, {Faults: slices.Repeat([]api.Fault{cut}, 32), Pushes: make([]api.Push, 32)},
			fault(api.Fault{At: lastTick, Sensor: 2, Kind: api.FOffset, N: api.MaxValue}), fault(api.Fault{Kind: api.FGain, N: -100000}),
		},
		false: {
			push(-1, 0, 0), push(401, 0, 0), push(0, -1, 0), push(0, 2, 0), push(0, 0, api.MaxAmp+1), push(0, 0, -api.MaxAmp-1),
			{Pushes: make([]api.Push, 33)}, {Faults: slices.Repeat([]api.Fault{cut}, 33)},
			fault(api.Fault{}), fault(api.Fault{At: -1, Kind: api.FCut}), fault(api.Fault{At: lastTick + 1, Kind: api.FCut}), fault(api.Fault{Sensor: 3, Kind: api.FCut}), fault(api.Fault{Sensor: -1, Kind: api.FCut}),
			fault(api.Fault{Kind: api.FCut, N: 1}), fault(api.Fault{Kind: api.FGain, N: 100001}), fault(api.Fault{Kind: 4}),
		},
	}
	for _, n := range wild {
		l[false] = append(l[false], push(n, 0, 0), push(0, n, 0), push(0, 0, n), fault(api.Fault{At: n, Kind: api.FCut}), fault(api.Fault{Sensor: n, Kind: api.FCut}))
	}
	return l
}

// 10.1
func TestValidScene(t *testing.T) {
	for valid, list := range scenes() {
		for _, s := range list {
			if got := desk.ValidScene(toy(), s); got != valid {
				t.Errorf("ValidScene of %v = %v", s, got)
			}
		}
	}
	for _, m := range brokenMachines() {
		same(t, "ValidScene without a machine", desk.ValidScene(m, api.Scene{}), false)
	}
	m := toy()
	m.Coils, m.Sensors = nil, nil
	same(t, "ValidScene of nothing without coils", desk.ValidScene(m, api.Scene{Seed: 4}), true)
	same(t, "ValidScene of a push without coils", desk.ValidScene(m, api.Scene{Pushes: make([]api.Push, 1)}), false)
	same(t, "ValidScene of a fault without sensors", desk.ValidScene(m, api.Scene{Faults: []api.Fault{{Kind: api.FCut}}}), false)
}

// 10.1
func TestFormatScene(t *testing.T) {
	same(t, "FormatScene", desk.FormatScene(toy(), stormy()), stormyText)
	same(t, "FormatScene of nothing", desk.FormatScene(toy(), api.Scene{}), "seed 0\n")
	same(t, "FormatScene of a seed", desk.FormatScene(toy(), api.Scene{Seed: math.MaxUint32}), "seed 4294967295\n")
	s := api.Scene{Pushes: []api.Push{{At: 400, Coil: 1, Change: -api.MaxAmp}, {At: 0, Coil: 0, Change: api.MaxAmp}, {At: 400, Coil: 1}}}
	same(t, "FormatScene of pushes", desk.FormatScene(toy(), s), "seed 0\npush 400 up -1000000\npush 0 oh 1000000\npush 400 up 0\n")
	s = api.Scene{Seed: 3, Faults: []api.Fault{{At: lastTick, Sensor: 2, Kind: api.FGain, N: -5}, {Sensor: 2, Kind: api.FCut}}}
	same(t, "FormatScene of faults", desk.FormatScene(toy(), s), "seed 3\ngain 1000000000 s3 -5\ncut 0 s3\n")
	for _, s := range scenes()[false] {
		same(t, "FormatScene of a scene that is not valid", desk.FormatScene(toy(), s), "")
	}
	for _, m := range brokenMachines() {
		same(t, "FormatScene without a machine", desk.FormatScene(m, api.Scene{}), "")
	}
}

// 10.1, P3: what is written is read
func TestParseReadsFormatScene(t *testing.T) {
	for _, s := range scenes()[true] {
		is(t, "ParseScene of what was written", s)(desk.ParseScene(toy(), desk.FormatScene(toy(), s)))
	}
	r := rand.New(rand.NewSource(1))
	for range 500 {
		m := some(r)
		s := someScene(r, m)
		is(t, "ParseScene of what was written", s)(desk.ParseScene(m, desk.FormatScene(m, s)))
	}
	// the longest text
	m := toy()
	m.Coils[1].Name, m.Sensors[2].Name = "abcdefghijklmnop", "abcdefghijklmnop"
	s := api.Scene{
		Seed:   math.MaxUint32,
		Faults: slices.Repeat([]api.Fault{{At: lastTick, Sensor: 2, Kind: api.FOffset, N: -api.MaxValue}}, 32),
		Pushes: slices.Repeat([]api.Push{{At: 400, Coil: 1, Change: -api.MaxAmp}}, 32),
	}
	is(t, "ParseScene of the longest text", s)(desk.ParseScene(m, desk.FormatScene(m, s)))
	// words of lines may be names
	m.Coils[0].Name, m.Coils[1].Name, m.Sensors[0].Name = "push", "seed", "push"
	s = api.Scene{Faults: []api.Fault{{Kind: api.FCut}}, Pushes: []api.Push{{Coil: 0, Change: 1}, {Coil: 1, Change: 2}}}
	is(t, "ParseScene of names that are words", s)(desk.ParseScene(m, "seed 0\ncut 0 push\npush 0 push 1\npush 0 seed 2\n"))
}

// 10.1
func TestParseSceneErrors(t *testing.T) {
	long := strings.Repeat("x", api.MaxText+1)
	for _, m := range brokenMachines() {
		for _, text := range []string{"seed 0\n", "", long} {
			fails[api.Scene](t, "ParseScene without a machine", api.ErrInvalid)(desk.ParseScene(m, text))
		}
	}
	fails[api.Scene](t, "ParseScene of a long text", api.ErrLong)(desk.ParseScene(toy(), long))
	fails[api.Scene](t, "ParseScene of a text that is nearly too long", api.ErrSyntax)(desk.ParseScene(toy(), long[1:]))
	fails[api.Scene](t, "ParseScene of a long beginning", api.ErrLong)(desk.ParseScene(toy(), stormyText+strings.Repeat("\n", api.MaxText+1-len(stormyText))))
	for _, text := range []string{
		"", "\n", "seed", "seed\n", "seed \n", "seed 0", "seed 0 \n", " seed 0\n", "seed  0\n", "seed 00\n", "seed 01\n", "seed +1\n", "seed -0\n", "seed -1\n", "seed 4294967296\n", "seed 99999999999999999999\n", "seed 0x1\n", "seed x\n", "Seed 0\n", "seed 0 0\n", "seed 0\r\n", "seed 1_0\n",
		"seed 0\n\n", "\nseed 0\n", "seed 0\nseed 0\n", "seed 0\nseed 1\n", "cut 0 s1\n", "push 0 oh 1\n", "cut 0 s1\nseed 0\n", "seed 0\npush 0 oh 1\ncut 0 s1\n", "seed 0\ncut 0 s1\npush 0 oh 1\ncut 0 s1\n", "seed 0\nx\n", "seed 0\ncut 0 s1", "seed 0\npush 0 oh 1",
		"seed 0\ncut 0 s4\n", "seed 0\ncut -1 s1\n", "seed 0\ncut 0  s1\n", "seed 0\noffset 0 s1\n", "seed 0\ngain 0 s1 100001\n", "seed 0\ncut 0 oh\n",
		"seed 0\npush\n", "seed 0\npush 0\n", "seed 0\npush 0 oh\n", "seed 0\npush 0 oh \n", "seed 0\npush 0 oh 1 \n", "seed 0\npush 0 oh 1 1\n", "seed 0\n push 0 oh 1\n", "seed 0\npush  0 oh 1\n", "seed 0\npush 0  oh 1\n", "seed 0\npush 0 oh  1\n",
		"seed 0\npush 0 ah 1\n", "seed 0\npush 0 0 1\n", "seed 0\npush 0 s1 1\n", "seed 0\npush 0 OH 1\n", "seed 0\npush oh 0 1\n", "seed 0\npush -1 oh 1\n", "seed 0\npush 401 oh 1\n", "seed 0\npush 00 oh 1\n", "seed 0\npush +0 oh 1\n", "seed 0\npush x oh 1\n",
		"seed 0\npush 0 oh x\n", "seed 0\npush 0 oh 01\n", "seed 0\npush 0 oh +1\n", "seed 0\npush 0 oh -0\n", "seed 0\npush 0 oh 1000001\n", "seed 0\npush 0 oh -1000001\n", "seed 0\npush 0 oh 99999999999999999999\n", "seed 0\npushes 0 oh 1\n", "seed 0\npush 0 oh 1\r\n", "seed 0\npush\t0 oh 1\n",
		"seed 0|", "seed 0\n.\n", "seed 0\n" + strings.Repeat("cut 0 s1\n", 33), "seed 0\n" + strings.Repeat("push 0 oh 1\n", 33), stormyText + stormyText, stormyText[:len(stormyText)-1], stormyText[1:],
	} {
		fails[api.Scene](t, "ParseScene of "+text[:min(len(text), 50)], api.ErrSyntax)(desk.ParseScene(toy(), text))
	}
}

// lineGrammar is the form of a scene's text for the toy, but for ranges of numbers and counts of lines.
var lineGrammar = regexp.MustCompile(`^seed (0|[1-9][0-9]*)\n((offset|gain) (0|[1-9][0-9]*) s[123] (0|-?[1-9][0-9]*)\n|cut (0|[1-9][0-9]*) s[123]\n)*(push (0|[1-9][0-9]*) (oh|up) (0|-?[1-9][0-9]*)\n)*$`)

// 10.1, P3: nothing else is read
func TestChangedScenes(t *testing.T) {
	r := rand.New(rand.NewSource(2))
	parts := []string{" ", "\n", "0", "1", "-", "s1", "up", "push 1 up 2\n", "cut 5 s2\n", "seed 1\n", "", "oh", "+", "|"}
	cases := map[string]int{}
	for range 5000 {
		text := []string{stormyText, "seed 3\npush 1 up 2\n", "seed 0\ncut 1 s3\n"}[r.Intn(3)]
		from := r.Intn(len(text) + 1)
		to := min(len(text), from+r.Intn(3))
		text = text[:from] + parts[r.Intn(len(parts))] + text[to:]
		s, e := desk.ParseScene(toy(), text)
		read := e == api.OK
		switch {
		case read:
			cases["read"]++
			same(t, "FormatScene of what was read", desk.FormatScene(toy(), s), text)
		case e != api.ErrSyntax || !equal(s, api.Scene{}):
			t.Errorf("ParseScene of %q = %v, %d", text, s, e)
		default:
			cases["not read"]++
		}
		// no number comes to be out of its range by so small changes, but for signs and the ticks of pushes
		if fits := lineGrammar.MatchString(text); fits != read && !strings.Contains(text, "-") && len(text) < 60 {
			t.Errorf("ParseScene of %q: %v, but by the grammar %v", text, read, fits)
		}
	}
	enough(t, cases, 300, "read", "not read")
}
