package plan_test

import (
	"hash/fnv"
	"math/rand"
	"slices"
	"strconv"
	"testing"

	"shotdesk/api"
	"shotdesk/circuit"
	"shotdesk/plan"
)

// hash is that of circuit.Digest, which has a name of its own.
func hash(text string) uint64 {
	h := fnv.New64a()
	h.Write([]byte(text))
	return h.Sum64()
}

func keyOf(person string, digest uint64) uint64 {
	return hash(person + "\n" + strconv.FormatUint(digest, 10))
}

// 9.2
func TestDigest(t *testing.T) {
	m, p := toy(), demo()
	is(t, "Digest", hash(demoText))(plan.Digest(m, p))
	same(t, "circuit.Digest of nothing", circuit.Digest(api.State{}), hash("0 0 0 0 "))
	small, least, _ := bare()
	is(t, "Digest of little", hash("plan p by o\nticks 1\ncurrent 0:0\nsafety 0 0\npurse 0\n"))(plan.Digest(small, least))
	for _, f := range flaws() {
		m, p := toy(), demo()
		f.make(&m, &p)
		fails[uint64](t, "Digest with "+f.what, f.e)(plan.Digest(m, p))
	}
}

// 9.2: a plan whose text is too long to be read has a digest
func TestDigestOfMuch(t *testing.T) {
	m, p := toy(), longPlan()
	text := plan.Format(m, p)
	same(t, "whether the text is too long", len(text) > api.MaxText, true)
	is(t, "Digest of much", hash(text))(plan.Digest(m, p))
	same(t, "Keyed of much", plan.Keyed(m, p, "eve", "bob", keyOf("eve", hash(text)), keyOf("bob", hash(text))), true)
}

// 9.2: of random plans
func TestDigestIsOfTheText(t *testing.T) {
	r := rand.New(rand.NewSource(9))
	for range 300 {
		m := some(r)
		p := somePlan(r, m)
		is(t, "Digest", hash(plan.Format(m, p)))(plan.Digest(m, p))
	}
}

// 9.7
func TestKeyed(t *testing.T) {
	m, p := toy(), demo()
	digest := hash(demoText)
	key := func(person string) uint64 { return keyOf(person, digest) }
	for _, c := range []struct {
		what string
		a, b string
		x, y uint64
		want bool
	}{
		{"two persons", "bob", "eve", key("bob"), key("eve"), true}, {"the other way round", "eve", "bob", key("eve"), key("bob"), true},
		{"the owner and another one", "ann", "bob", key("ann"), key("bob"), true}, {"another one and the owner", "bob", "ann", key("bob"), key("ann"), true},
		{"names of one byte and of 16", "a", "abcdefghijklmnop", key("a"), key("abcdefghijklmnop"), true},
		{"one person", "bob", "bob", key("bob"), key("bob"), false}, {"the owner alone", "ann", "ann", key("ann"), key("ann"), false},
		{"exchanged keys", "bob", "eve", key("eve"), key("bob"), false}, {"a wrong first key", "bob", "eve", key("bob") + 1, key("eve"), false}, {"a wrong second key", "bob", "eve", key("bob"), key("eve") ^ 1<<63, false},
		{"no keys", "bob", "eve", 0, 0, false}, {"the digest as a key", "bob", "eve", digest, digest, false}, {"one key for both", "bob", "eve", key("bob"), key("bob"), false},
		{"keys of another plan", "bob", "eve", keyOf("bob", digest+1), keyOf("eve", digest+1), false}, {"keys without a line feed", "bob", "eve", hash("bob" + strconv.FormatUint(digest, 10)), key("eve"), false},
	} {
		same(t, "Keyed by "+c.what, plan.Keyed(m, p, c.a, c.b, c.x, c.y), c.want)
	}
	for _, name := range wrongNames {
		same(t, "Keyed by a wrong name", plan.Keyed(m, p, name, "eve", key(name), key("eve")), false)
		same(t, "Keyed by another wrong name", plan.Keyed(m, p, "eve", name, key("eve"), key(name)), false)
	}
	for _, f := range flaws() {
		m, p := toy(), demo()
		f.make(&m, &p)
		for _, digest := range []uint64{digest, 0, hash("")} {
			same(t, "Keyed with "+f.what, plan.Keyed(m, p, "bob", "eve", keyOf("bob", digest), keyOf("eve", digest)), false)
		}
	}
}

// P9.6: a key is for just its plan
func TestKeysOfOtherPlans(t *testing.T) {
	m, p := toy(), demo()
	digest := hash(demoText)
	for what, change := range map[string]func(p *api.Plan){
		"name": func(p *api.Plan) { p.Name = "demos" }, "owner": func(p *api.Plan) { p.Owner = "joe" }, "ticks": func(p *api.Plan) { p.Ticks++ }, "current": func(p *api.Plan) { p.Current[1].Value++ }, "tick of the current": func(p *api.Plan) { p.Current[1].At++ },
		"wave": func(p *api.Plan) { p.Waves[1].Corners[1].Value-- }, "coil": func(p *api.Plan) { p.Waves = p.Waves[:1] }, "order of waves": func(p *api.Plan) { slices.Reverse(p.Waves) }, "aim": func(p *api.Plan) { p.Aims[1].Goal.Z++ },
		"bound": func(p *api.Plan) { p.Bounds[1].Keep.Hi++ }, "rule": func(p *api.Plan) { p.Rules[0].Doubt = 6 }, "shell": func(p *api.Plan) { p.Safety.Shell++ }, "force": func(p *api.Plan) { p.Safety.Force++ }, "purse": func(p *api.Plan) { p.Purse++ },
	} {
		other := demo()
		change(&other)
		mine, e := plan.Digest(m, other)
		if e != api.OK || mine == digest {
			t.Errorf("Digest with another %s = %d, %d", what, mine, e)
		}
		same(t, "Keyed with another "+what, plan.Keyed(m, other, "bob", "eve", keyOf("bob", digest), keyOf("eve", digest)), false)
		same(t, "Keyed with keys of another "+what, plan.Keyed(m, p, "bob", "eve", keyOf("bob", mine), keyOf("eve", mine)), false)
		same(t, "Keyed with its keys", plan.Keyed(m, other, "bob", "eve", keyOf("bob", mine), keyOf("eve", mine)), true)
	}
}
