package desk_test

import (
	"bytes"
	"math/rand"
	"slices"
	"strconv"
	"strings"
	"testing"

	"shotdesk/api"
	"shotdesk/circuit"
	"shotdesk/desk"
	"shotdesk/guard"
	"shotdesk/machine"
	"shotdesk/plan"
)

// A shadow keeps what a desk must have by the chapter's words.
type shadow struct {
	t     *testing.T
	m     api.Machine
	x     api.Setup
	state api.State
	plans map[string]api.Plan
	keys  map[string][]string // who has turned one, for each plan
	shots int
	pages []page
	fired []api.Shot
}

func flat(text string) string { return strings.ReplaceAll(text, "\n", "|") }

func (s *shadow) write(text string) api.Errno {
	s.pages = append(s.pages, page{s.state.Tick, text})
	return api.OK
}

func (s *shadow) file(p api.Plan) api.Errno {
	if e := plan.Check(s.m, p); e != api.OK {
		return e
	}
	s.plans[p.Name] = p
	s.keys[p.Name] = nil
	return s.write("file " + flat(plan.Format(s.m, p)))
}

func (s *shadow) turn(person, name string, key uint64) api.Errno {
	p, there := s.plans[name]
	switch {
	case !machine.Name(person):
		return api.ErrName
	case !there:
		return api.ErrNone
	case key != keyOf(s.t, s.m, p, person):
		return api.ErrKey
	case slices.Contains(s.keys[name], person):
		return api.ErrDuplicate
	}
	s.keys[name] = append(s.keys[name], person)
	return s.write("turn " + person + " " + name + " " + strconv.FormatUint(key, 10))
}

func (s *shadow) fire(name string, scene api.Scene) api.Errno {
	p, there := s.plans[name]
	switch {
	case !there:
		return api.ErrNone
	case !desk.ValidScene(s.m, scene):
		return api.ErrInvalid
	case len(s.keys[name]) < 2:
		return api.ErrKey
	}
	if k, e := plan.Wait(s.m, p, s.state); e != api.OK || k > 0 {
		return api.ErrState
	}
	h := fly(s.t, s.m, s.x, scene, p, s.state)
	s.shots++
	h.Number, s.state, s.keys[name] = s.shots, h.End, nil
	s.fired = append(s.fired, h)
	mode := guard.Word(h.Ticks[len(h.Ticks)-1].Mode)
	return s.write("fire " + strconv.Itoa(s.shots) + " " + name + " " + mode + " " + strconv.FormatUint(circuit.Digest(h.End), 10) + " " + flat(desk.FormatScene(s.m, scene)))
}

func (s *shadow) rest(k int) api.Errno {
	rested, e := plan.Rested(s.m, s.state, k)
	if e != api.OK {
		return e
	}
	s.state = rested
	return s.write("rest " + strconv.Itoa(k))
}

func (s *shadow) void(name string) api.Errno {
	if _, there := s.plans[name]; !there {
		return api.ErrNone
	}
	delete(s.plans, name)
	delete(s.keys, name)
	return s.write("void " + name)
}

// facts are what the desk has to tell.
func (s *shadow) facts() facts {
	f := facts{state: s.state, shots: s.shots}
	f.lines, f.bytes = bind(s.pages...)
	for name := range s.plans {
		f.plans = append(f.plans, name)
	}
	slices.Sort(f.plans)
	for _, name := range append(slices.Clone(names), f.plans...) {
		f.keys = append(f.keys, slices.Sorted(slices.Values(s.keys[name])))
	}
	return f
}

var names = []string{"p", "q"}

// command makes a random command at the desk and at its shadow, and returns what both say.
func (s *shadow) command(r *rand.Rand, d *desk.Desk) (kind string, got, want api.Errno) {
	name, person := oneOf(r, names...), oneOf(r, "ann", "bob", "eve", "eve", "X")
	switch kind = oneOf(r, "file", "turn", "turn", "turn", "turn", "turn", "turn", "fire", "fire", "fire", "rest", oneOf(r, "rest", "void")); kind {
	case "file":
		p := somePlan(r, s.m)
		p.Name, p.Ticks = oneOf(r, name, name, name, ""), 1+r.Intn(6)
		return kind, d.File(p), s.file(p)
	case "turn":
		key := uint64(r.Intn(3))
		if p, there := s.plans[name]; there && r.Intn(10) > 0 {
			key = keyOf(s.t, s.m, p, person)
		}
		return kind, d.Turn(person, name, key), s.turn(person, name, key)
	case "fire":
		scene := someScene(r, s.m)
		if r.Intn(10) == 0 {
			scene.Pushes = []api.Push{{At: -1}}
		}
		h, e := d.Fire(name, scene)
		want := s.fire(name, scene)
		if want == api.OK {
			gives(s.t, "Fire", h, s.fired[len(s.fired)-1])
		} else {
			gives(s.t, "the record of no shot", h, api.Shot{})
		}
		return kind, e, want
	case "rest":
		k := oneOf(r, -1, 0, 0, 1, 5, 100, 10000, oneOf(r, 2, lastTick))
		return kind, d.Rest(k), s.rest(k)
	}
	return kind, d.Void(name), s.void(name)
}

// 10.5, 10.6, P10.5, P10.6, P10.7: random commands
func TestRandomCommands(t *testing.T) {
	r := rand.New(rand.NewSource(7))
	cases := map[string]int{}
	for range 250 {
		m := some(r)
		x := someSetup(r, m)
		s := shadow{t: t, m: m, x: x, state: begun(t, m), plans: map[string]api.Plan{}, keys: map[string][]string{}}
		d := opened(t, m, x)
		for range 40 {
			kind, got, want := s.command(r, d)
			cases[kind+" "+strconv.Itoa(int(want))]++
			same(t, kind, got, want)
			sameFacts(t, "behind "+kind, tell(d, names...), s.facts())
			if t.Failed() {
				return
			}
		}
		readBack(t, r, d, s)
		for _, h := range s.fired {
			checkFired(t, h, s)
		}
	}
	t.Log(cases)
	enough(t, cases, 15, "file 0", "file 1", "turn 0", "turn 5", "turn 6", "turn 8", "turn 13", "fire 0", "fire 1", "fire 8", "fire 12", "fire 13", "rest 0", "rest 7", "void 0", "void 8")
}

// readBack reads a desk's book, and a beginning of it.
func readBack(t *testing.T, r *rand.Rand, d *desk.Desk, s shadow) {
	t.Helper()
	all := d.Bytes()
	again, e := desk.Read(s.m, s.x, all)
	does(t, "Read", e)
	sameFacts(t, "Read", tell(again, names...), s.facts())
	begin := all[:r.Intn(len(all)+1)]
	again, e = desk.Read(s.m, s.x, begin)
	does(t, "Read of a beginning", e)
	same(t, "the book of a beginning", string(again.Bytes()), string(all[:bytes.LastIndexByte(begin, '\n')+1]))
}

// checkFired looks for two keys for just the plan of a shot, in the book before it and behind the plan's filing.
func checkFired(t *testing.T, h api.Shot, s shadow) {
	t.Helper()
	at := slices.IndexFunc(s.pages, func(p page) bool { return strings.HasPrefix(p.text, "fire "+strconv.Itoa(h.Number)+" ") })
	persons := map[string]bool{}
	for _, p := range slices.Backward(s.pages[:at]) {
		words := strings.Fields(p.text)
		if words[0] == "turn" && words[2] == h.Plan.Name {
			same(t, "a key", words[3], strconv.FormatUint(keyOf(t, s.m, h.Plan, words[1]), 10))
			persons[words[1]] = true
		}
		if p.text == "file "+flat(plan.Format(s.m, h.Plan)) {
			break
		}
		if words[0] == "fire" && words[2] == h.Plan.Name || words[0] == "void" && words[1] == h.Plan.Name || words[0] == "file" && words[2] == h.Plan.Name {
			break
		}
	}
	if len(persons) < 2 {
		t.Errorf("the shot %d has the keys of %v", h.Number, persons)
	}
}
