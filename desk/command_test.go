package desk_test

import (
	"slices"
	"strconv"
	"strings"
	"testing"

	"shotdesk/api"
	"shotdesk/circuit"
	"shotdesk/desk"
	"shotdesk/guard"
	"shotdesk/plan"
)

// opened is a new desk.
func opened(t *testing.T, m api.Machine, x api.Setup) *desk.Desk {
	t.Helper()
	d, e := desk.New(m, x)
	if e != api.OK || d == nil {
		t.Fatalf("New = %d", e)
	}
	return d
}

// does makes a command that must not fail.
func does(t *testing.T, call string, e api.Errno) {
	t.Helper()
	if e != api.OK {
		t.Fatalf("%s = %d", call, e)
	}
}

// named is a plan of the tiny machine with another name.
func named(name string) api.Plan {
	p := simple(3, 0, 0, 1, 64)
	p.Name = name
	p.Waves = []api.Wave{{Coil: "a", Corners: corners(0, 0, 2, 150)}}
	return p
}

// turned turns the keys of persons for a plan that is filed.
func turned(t *testing.T, d *desk.Desk, m api.Machine, p api.Plan, persons ...string) {
	t.Helper()
	for _, person := range persons {
		does(t, "Turn of "+person, d.Turn(person, p.Name, keyOf(t, m, p, person)))
	}
}

// facts are all that a desk tells.
type facts struct {
	state api.State
	plans []string
	keys  [][]string
	shots int
	lines []api.Line
	bytes string
}

// tell returns the facts, with the keys of some names.
func tell(d *desk.Desk, names ...string) facts {
	f := facts{d.State(), d.Plans(), nil, d.Shots(), d.Lines(), string(d.Bytes())}
	for _, name := range append(names, f.plans...) {
		f.keys = append(f.keys, d.Keys(name))
	}
	return f
}

// sameFacts holds what desks tell against each other.
func sameFacts(t *testing.T, what string, got, want facts) {
	t.Helper()
	gives(t, what+": State", got.state, want.state)
	gives(t, what+": Plans", got.plans, want.plans)
	gives(t, what+": Keys", got.keys, want.keys)
	same(t, what+": Shots", got.shots, want.shots)
	gives(t, what+": Lines", got.lines, want.lines)
	same(t, what+": Bytes", got.bytes, want.bytes)
}

// refuses returns a check for a command that fails and changes nothing.
func refuses(t *testing.T, d *desk.Desk) func(what string, want api.Errno, do func() api.Errno) {
	return func(what string, want api.Errno, do func() api.Errno) {
		t.Helper()
		before := tell(d, "p", "q")
		same(t, what, do(), want)
		sameFacts(t, "behind "+what, tell(d, "p", "q"), before)
	}
}

// 10.5, 10.6
func TestNew(t *testing.T) {
	d := opened(t, toy(), keen())
	gives(t, "State", d.State(), begun(t, toy()))
	same(t, "how much there is", len(d.Plans())+len(d.Keys("p"))+d.Shots()+len(d.Lines())+len(d.Bytes()), 0)
	for _, m := range brokenMachines() {
		fails[*desk.Desk](t, "New without a machine", api.ErrInvalid)(desk.New(m, keen()))
	}
	for _, x := range []api.Setup{{}, idle(tiny()), {Gains: make([]api.Gain, 3)}, {Gains: make([]api.Gain, 2), Most: -1}, {Gains: make([]api.Gain, 2), Most: lastTick + 1}, {Gains: []api.Gain{{}, {R: 1000001}}}} {
		fails[*desk.Desk](t, "New without a setup", api.ErrInvalid)(desk.New(toy(), x))
	}
}

// 10.5
func TestFile(t *testing.T) {
	d := opened(t, toy(), keen())
	does(t, "File", d.File(demo()))
	gives(t, "Plans", d.Plans(), []string{"demo"})
	same(t, "the line", d.Lines()[0].Text, "file "+strings.ReplaceAll(demoText, "\n", "|"))
	p := demo()
	p.Name = "a"
	does(t, "File", d.File(p))
	p.Name = "z"
	does(t, "File", d.File(p))
	gives(t, "Plans", d.Plans(), []string{"a", "demo", "z"})
	same(t, "lines", len(d.Lines()), 3)
	refuse := refuses(t, d)
	for want, spoil := range map[api.Errno]func(p *api.Plan){
		api.ErrInvalid: func(p *api.Plan) { p.Name = "A" }, api.ErrRange: func(p *api.Plan) { p.Ticks = 0 }, api.ErrName: func(p *api.Plan) { p.Waves[0].Coil = "ah" },
		api.ErrDuplicate: func(p *api.Plan) { p.Waves[0].Coil = "oh" }, api.ErrOrder: func(p *api.Plan) { p.Aims[0].At = 7 }, api.ErrLimit: func(p *api.Plan) { p.Waves = make([]api.Wave, 13) },
		api.ErrLong: func(p *api.Plan) { p.Rules = longRules() },
	} {
		refuse("File of no plan", want, func() api.Errno {
			p := demo()
			spoil(&p)
			return d.File(p)
		})
	}
}

// longRules are rules with texts that are too long to be read together.
func longRules() []api.Rule {
	when := api.Cond{Op: api.CAnd, Kids: slices.Repeat([]api.Cond{{Op: api.CIs, Name: "abcdefghijklmnop", N: -api.MaxValue, M: -api.MaxValue}}, 63)}
	var l []api.Rule
	for i := range 16 {
		l = append(l, api.Rule{Name: "r" + strconv.Itoa(i), When: when, For: 1, Mode: 1})
	}
	return l
}

// longest is a plan for the toy with a text of just MaxText bytes.
func longest() api.Plan {
	p := demo()
	p.Rules = longRules()
	excess := len(plan.Format(toy(), p)) - api.MaxText
	// a kid is 65 bytes with what joins it, 16 of which are its name
	kids := slices.Clone(p.Rules[15].When.Kids[excess/65:])
	p.Rules[15].When.Kids = kids
	excess %= 65
	for i := 0; excess > 0; i++ {
		less := min(excess, 15)
		kids[i].Name = kids[i].Name[less:]
		excess -= less
	}
	return p
}

// 10.5: a text of just MaxText bytes is not too long
func TestFileOfTheLongest(t *testing.T) {
	p := longest()
	same(t, "the length of its text", len(plan.Format(toy(), p)), api.MaxText)
	d := opened(t, toy(), keen())
	does(t, "File of a text of MaxText bytes", d.File(p))
	again, e := desk.Read(toy(), keen(), d.Bytes())
	does(t, "Read", e)
	gives(t, "Plans", again.Plans(), []string{"demo"})
	p.Name = "demos"
	same(t, "File of a byte more", d.File(p), api.ErrLong)
}

// 10.5: a new plan takes the place of an older one, and its keys go
func TestFileAgain(t *testing.T) {
	d := opened(t, tiny(), idle(tiny()))
	p, q := named("p"), named("q")
	does(t, "File", d.File(p))
	does(t, "File", d.File(q))
	turned(t, d, tiny(), p, "ann", "bob")
	turned(t, d, tiny(), q, "bob", "ann", "eve")
	gives(t, "Keys", d.Keys("p"), []string{"ann", "bob"})
	does(t, "File of the same plan", d.File(p))
	gives(t, "Plans", d.Plans(), []string{"p", "q"})
	gives(t, "Keys", d.Keys("p"), nil)
	gives(t, "Keys of the other plan", d.Keys("q"), []string{"ann", "bob", "eve"})
	// the same keys fit again, but not another plan
	turned(t, d, tiny(), p, "ann", "bob")
	p.Ticks = 2
	does(t, "File of another plan", d.File(p))
	refuse := refuses(t, d)
	refuse("Turn of the key of the older plan", api.ErrKey, func() api.Errno { return d.Turn("ann", "p", keyOf(t, tiny(), named("p"), "ann")) })
	turned(t, d, tiny(), p, "bob", "eve")
	h, e := d.Fire("p", api.Scene{})
	does(t, "Fire", e)
	same(t, "ticks of the newer plan", len(h.Ticks), 2)
}

// 10.5
func TestTurn(t *testing.T) {
	d := opened(t, tiny(), idle(tiny()))
	p := named("p")
	key := func(person string) uint64 { return keyOf(t, tiny(), p, person) }
	refuse := refuses(t, d)
	refuse("Turn without a plan", api.ErrNone, func() api.Errno { return d.Turn("ann", "p", key("ann")) })
	does(t, "File", d.File(p))
	for _, person := range wrongNames {
		refuse("Turn of no name", api.ErrName, func() api.Errno { return d.Turn(person, "p", key(person)) })
		refuse("Turn of no name without a plan", api.ErrName, func() api.Errno { return d.Turn(person, "q", key(person)) })
		refuse("Turn for no name", api.ErrNone, func() api.Errno { return d.Turn("ann", person, key("ann")) })
	}
	for _, wrong := range []uint64{0, 1, key("ann") + 1, key("ann") - 1, key("bob"), ^uint64(0)} {
		refuse("Turn of a wrong key", api.ErrKey, func() api.Errno { return d.Turn("ann", "p", wrong) })
		refuse("Turn of a wrong key without a plan", api.ErrNone, func() api.Errno { return d.Turn("ann", "q", wrong) })
	}
	turned(t, d, tiny(), p, "eve", "ann", "bob")
	gives(t, "Keys", d.Keys("p"), []string{"ann", "bob", "eve"})
	same(t, "the line", d.Lines()[1].Text, "turn eve p "+strconv.FormatUint(key("eve"), 10))
	refuse("Turn again", api.ErrDuplicate, func() api.Errno { return d.Turn("ann", "p", key("ann")) })
	refuse("Turn of a wrong key again", api.ErrKey, func() api.Errno { return d.Turn("ann", "p", key("bob")) })
	gives(t, "Keys of no plan", d.Keys("q"), nil)
}

// 10.5: what Fire asks for, in this order
func TestFireErrors(t *testing.T) {
	d := opened(t, tiny(), idle(tiny()))
	p := named("p")
	wrong := api.Scene{Pushes: []api.Push{{Coil: 1}}}
	fire := func(name string, s api.Scene) func() api.Errno {
		return func() api.Errno {
			h, e := d.Fire(name, s)
			gives(t, "the record of no shot", h, api.Shot{})
			return e
		}
	}
	refuse := refuses(t, d)
	refuse("Fire without a plan", api.ErrNone, fire("p", api.Scene{}))
	refuse("Fire without a plan and a scene", api.ErrNone, fire("p", wrong))
	does(t, "File", d.File(p))
	refuse("Fire without a name", api.ErrNone, fire("", api.Scene{}))
	refuse("Fire without a scene", api.ErrInvalid, fire("p", wrong))
	refuse("Fire without keys", api.ErrKey, fire("p", api.Scene{}))
	turned(t, d, tiny(), p, "ann")
	refuse("Fire with a key", api.ErrKey, fire("p", api.Scene{}))
	refuse("Fire with a key without a scene", api.ErrInvalid, fire("p", wrong))
	q := named("q")
	does(t, "File", d.File(q))
	turned(t, d, tiny(), q, "bob", "eve")
	refuse("Fire with keys of another plan", api.ErrKey, fire("p", api.Scene{}))
	turned(t, d, tiny(), p, "eve")
	refuse("Fire with two keys without a scene", api.ErrInvalid, fire("p", wrong))
	_, e := d.Fire("p", api.Scene{})
	does(t, "Fire", e)
	refuse("Fire again", api.ErrKey, fire("p", api.Scene{}))
	turned(t, d, tiny(), p, "eve", "bob")
	does(t, "Void", d.Void("p"))
	refuse("Fire of a plan that went", api.ErrNone, fire("p", api.Scene{}))
	does(t, "File", d.File(p))
	refuse("Fire of a plan that is there again", api.ErrKey, fire("p", api.Scene{}))
}

// hot is the tiny machine with a coil that trips soon, and a plan that heats it.
func hot() (api.Machine, api.Plan) {
	m := tiny()
	m.Coils[0].MaxHeat, m.Coils[0].Cool = 60, 4
	p := simple(4, 0, 0)
	p.Waves = []api.Wave{{Coil: "a", Corners: corners(0, 0, 2, 200, 4, 0)}}
	return m, p
}

// 10.5: no shot that must wait
func TestFireWaits(t *testing.T) {
	m, p := hot()
	d := opened(t, m, idle(m))
	refuse := refuses(t, d)
	must := func() api.Errno {
		h, e := d.Fire("p", api.Scene{})
		gives(t, "the record of no shot", h, api.Shot{})
		return e
	}
	does(t, "File", d.File(p))
	turned(t, d, m, p, "ann", "bob")
	_, e := d.Fire("p", api.Scene{})
	does(t, "Fire", e)
	// the heats are 6, 42, 48 and 44; a cold coil has at most 48, so that one of 12 is just cold enough
	same(t, "the heat", d.State().Heat[0], 44)
	refuse("Fire without keys that must wait", api.ErrKey, must)
	turned(t, d, m, p, "ann", "bob")
	refuse("Fire that must wait for 8 ticks", api.ErrState, must)
	does(t, "Rest", d.Rest(7))
	refuse("Fire that must wait for a tick", api.ErrState, must)
	does(t, "Rest", d.Rest(1))
	_, e = d.Fire("p", api.Scene{})
	does(t, "Fire after 8 ticks", e)
	same(t, "Shots", d.Shots(), 2)
	// a plan that always trips
	p.Waves[0].Corners, p.Ticks = corners(0, 0, 3, 300), 4
	does(t, "File", d.File(p))
	turned(t, d, m, p, "ann", "bob")
	does(t, "Rest", d.Rest(1000))
	refuse("Fire of what always trips", api.ErrState, must)
	// too late a shot
	_, p = hot()
	does(t, "File", d.File(p))
	turned(t, d, m, p, "ann", "bob")
	does(t, "Rest", d.Rest(lastTick-3-d.State().Tick))
	refuse("Fire that is too late", api.ErrState, must)
}

// 10.5, 10.6: what Fire does
func TestFire(t *testing.T) {
	d := opened(t, toy(), keen())
	p, other := demo(), demo()
	other.Name = "other"
	does(t, "File", d.File(p))
	does(t, "File", d.File(other))
	for number := 1; number <= 3; number++ {
		turned(t, d, toy(), p, "ann", "bob")
		turned(t, d, toy(), other, []string{"cid", "dan", "eve"}[number-1])
		want := fly(t, toy(), keen(), stormy(), p, d.State())
		want.Number = number
		h, e := d.Fire("demo", stormy())
		does(t, "Fire", e)
		gives(t, "the record", h, want)
		gives(t, "State", d.State(), want.End)
		same(t, "Shots", d.Shots(), number)
		gives(t, "Plans", d.Plans(), []string{"demo", "other"})
		gives(t, "Keys", d.Keys("demo"), nil)
		same(t, "Keys of the other plan", len(d.Keys("other")), number)
		l := d.Lines()
		mode := guard.Word(h.Ticks[len(h.Ticks)-1].Mode)
		same(t, "the line", l[len(l)-1].Text, "fire "+strconv.Itoa(number)+" demo "+mode+" "+strconv.FormatUint(circuit.Digest(h.End), 10)+" "+strings.ReplaceAll(stormyText, "\n", "|"))
		same(t, "the line's tick", l[len(l)-1].Tick, 12*number)
	}
}

// 10.5: the mode of the last tick is in the line
func TestFireModes(t *testing.T) {
	for mode, word := range []string{"run", "warn", "soft", "gas", "off"} {
		d := opened(t, tiny(), idle(tiny()))
		p := named("p")
		p.Rules = from(2, mode)
		if mode == api.MRun {
			p.Rules = nil
		}
		does(t, "File", d.File(p))
		turned(t, d, tiny(), p, "ann", "bob")
		h, e := d.Fire("p", api.Scene{Seed: 9})
		does(t, "Fire", e)
		l := d.Lines()
		same(t, "the line", l[3].Text, "fire 1 p "+word+" "+strconv.FormatUint(circuit.Digest(h.End), 10)+" seed 9|")
	}
}

// 10.5
func TestRest(t *testing.T) {
	m, p := hot()
	d := opened(t, m, idle(m))
	does(t, "File", d.File(p))
	turned(t, d, m, p, "ann", "bob")
	_, e := d.Fire("p", api.Scene{Pushes: []api.Push{{At: 3, Change: 80}}})
	does(t, "Fire", e)
	b := d.State()
	for _, k := range []int{0, 1, 5} {
		want, e := plan.Rested(m, b, k)
		does(t, "Rested", e)
		does(t, "Rest", d.Rest(k))
		gives(t, "State", d.State(), want)
		l := d.Lines()
		same(t, "the line", l[len(l)-1].Text, "rest "+strconv.Itoa(k))
		same(t, "the line's tick", l[len(l)-1].Tick, want.Tick)
		b = want
	}
	refuse := refuses(t, d)
	for _, k := range append([]int{-1, lastTick + 1, lastTick - b.Tick + 1, lastTick}, wild...) {
		refuse("Rest", api.ErrRange, func() api.Errno { return d.Rest(k) })
	}
	does(t, "Rest", d.Rest(lastTick-b.Tick))
	same(t, "the last tick", d.State().Tick, lastTick)
	refuse("Rest behind the last tick", api.ErrRange, func() api.Errno { return d.Rest(1) })
	does(t, "Rest for no tick", d.Rest(0))
}

// 10.5
func TestVoid(t *testing.T) {
	d := opened(t, tiny(), idle(tiny()))
	p, q := named("p"), named("q")
	refuse := refuses(t, d)
	refuse("Void of nothing", api.ErrNone, func() api.Errno { return d.Void("p") })
	does(t, "File", d.File(p))
	does(t, "File", d.File(q))
	turned(t, d, tiny(), p, "ann", "bob")
	turned(t, d, tiny(), q, "ann")
	for _, name := range wrongNames {
		refuse("Void of no name", api.ErrNone, func() api.Errno { return d.Void(name) })
	}
	does(t, "Void", d.Void("p"))
	gives(t, "Plans", d.Plans(), []string{"q"})
	gives(t, "Keys", d.Keys("p"), nil)
	gives(t, "Keys of the other plan", d.Keys("q"), []string{"ann"})
	same(t, "the line", d.Lines()[5].Text, "void p")
	refuse("Void again", api.ErrNone, func() api.Errno { return d.Void("p") })
	does(t, "File", d.File(p))
	gives(t, "Keys of a plan that is there again", d.Keys("p"), nil)
}

// Details: a line too many is ErrLimit before all else
func TestLimit(t *testing.T) {
	d := opened(t, tiny(), idle(tiny()))
	p := named("p")
	does(t, "File", d.File(p))
	turned(t, d, tiny(), p, "ann", "bob")
	for range api.MaxLines - 3 {
		does(t, "Rest", d.Rest(0))
	}
	same(t, "lines", len(d.Lines()), 2000)
	refuse := refuses(t, d)
	for what, do := range map[string]func() api.Errno{
		"File": func() api.Errno { return d.File(named("q")) }, "File of no plan": func() api.Errno { return d.File(api.Plan{}) }, "Turn": func() api.Errno { return d.Turn("eve", "p", keyOf(t, tiny(), p, "eve")) },
		"Turn of no name": func() api.Errno { return d.Turn("", "p", 0) }, "Turn of no plan": func() api.Errno { return d.Turn("eve", "q", 0) }, "Rest": func() api.Errno { return d.Rest(0) }, "Rest for less": func() api.Errno { return d.Rest(-1) },
		"Void": func() api.Errno { return d.Void("p") }, "Void of nothing": func() api.Errno { return d.Void("q") },
		"Fire": func() api.Errno { h, e := d.Fire("p", api.Scene{}); gives(t, "the record", h, api.Shot{}); return e }, "Fire of nothing": func() api.Errno { _, e := d.Fire("q", api.Scene{}); return e },
	} {
		refuse(what, api.ErrLimit, do)
	}
	again, e := desk.Read(tiny(), idle(tiny()), d.Bytes())
	does(t, "Read", e)
	sameFacts(t, "Read of a full book", tell(again, "p"), tell(d, "p"))
	same(t, "Rest behind a full book that was read", again.Rest(0), api.ErrLimit)
}

// Details: the methods of no desk
func TestNoDesk(t *testing.T) {
	var d *desk.Desk
	same(t, "File", d.File(named("p")), api.ErrInvalid)
	same(t, "Turn", d.Turn("ann", "p", 5), api.ErrInvalid)
	fails[api.Shot](t, "Fire", api.ErrInvalid)(d.Fire("p", api.Scene{}))
	same(t, "Rest", d.Rest(0), api.ErrInvalid)
	same(t, "Void", d.Void("p"), api.ErrInvalid)
	sameFacts(t, "no desk", tell(d), facts{})
	gives(t, "Keys", d.Keys("p"), nil)
}
