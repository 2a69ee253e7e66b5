package desk_test

import (
	"bytes"
	"math/rand"
	"slices"
	"strconv"
	"strings"
	"testing"

	"shotdesk/api"
	"shotdesk/circuit"
	"shotdesk/desk"
)

// A page is what a line of a book is to say: its tick and text.
type page struct {
	tick int
	text string
}

// bind returns the lines of a book, and its bytes, by the chapter's words.
func bind(pages ...page) ([]api.Line, string) {
	var lines []api.Line
	var text strings.Builder
	sum := uint64(0)
	for i, p := range pages {
		number, tick := strconv.Itoa(i), strconv.Itoa(p.tick)
		sum = hash(strconv.FormatUint(sum, 10) + " " + number + " " + tick + " " + p.text)
		lines = append(lines, api.Line{Number: i, Tick: p.tick, Text: p.text, Sum: sum})
		text.WriteString(number + " " + tick + " " + strconv.FormatUint(sum, 10) + " " + p.text + "\n")
	}
	return lines, text.String()
}

// pagesOf returns what the lines of a desk say.
func pagesOf(d *desk.Desk) []page {
	var l []page
	for _, x := range d.Lines() {
		l = append(l, page{x.Tick, x.Text})
	}
	return l
}

// worked is a desk of the toy with a line of each kind, and two shots.
func worked(t *testing.T) *desk.Desk {
	t.Helper()
	d := opened(t, toy(), keen())
	p, q := demo(), demo()
	q.Name, q.Ticks = "q", 5
	does(t, "File", d.File(p))
	turned(t, d, toy(), p, "ann", "bob")
	_, e := d.Fire("demo", stormy())
	does(t, "Fire", e)
	does(t, "Rest", d.Rest(50))
	does(t, "File", d.File(q))
	turned(t, d, toy(), q, "bob", "eve")
	_, e = d.Fire("q", api.Scene{Seed: 1})
	does(t, "Fire", e)
	does(t, "Void", d.Void("demo"))
	turned(t, d, toy(), q, "ann")
	return d
}

// 10.6: the book by the chapter's words
func TestBook(t *testing.T) {
	d := opened(t, tiny(), idle(tiny()))
	p := named("p")
	const text = "plan p by ann|ticks 3|current 0:0 1:64|coil a 0:0 2:150|safety 1000000 1000000000000000|purse 1000000000000000|"
	does(t, "File", d.File(p))
	turned(t, d, tiny(), p, "bob", "eve")
	s := api.Scene{Seed: 5, Pushes: []api.Push{{At: 1, Change: -7}}}
	h, e := d.Fire("p", s)
	does(t, "Fire", e)
	does(t, "Rest", d.Rest(20))
	does(t, "Void", d.Void("p"))
	digest := hash(strings.ReplaceAll(text, "|", "\n"))
	key := func(person string) string {
		return strconv.FormatUint(hash(person+"\n"+strconv.FormatUint(digest, 10)), 10)
	}
	lines, all := bind(page{0, "file " + text}, page{0, "turn bob p " + key("bob")}, page{0, "turn eve p " + key("eve")},
		page{3, "fire 1 p run " + strconv.FormatUint(circuit.Digest(h.End), 10) + " seed 5|push 1 a -7|"}, page{23, "rest 20"}, page{23, "void p"})
	gives(t, "Lines", d.Lines(), lines)
	same(t, "Bytes", string(d.Bytes()), all)
	same(t, "the first Sum", d.Lines()[0].Sum, hash("0 0 0 file "+text))
	is(t, "Lines of the bytes", lines)(desk.Lines(d.Bytes()))
	again, e := desk.Read(tiny(), idle(tiny()), []byte(all))
	does(t, "Read", e)
	sameFacts(t, "Read", tell(again, "p"), tell(d, "p"))
}

// 10.6: lines are taken whatever their Text is
func TestLines(t *testing.T) {
	is(t, "Lines of nothing", []api.Line{})(desk.Lines(nil))
	is(t, "Lines of no bytes", []api.Line{})(desk.Lines([]byte{}))
	pages := []page{{0, "x"}, {lastTick, " "}, {0, "  a  "}, {7, "a|b\r"}, {7, "\x00\xff"}, {12, "0 0 0 x"}, {3, "file"}, {3, strings.Repeat("long ", 100000)}}
	lines, all := bind(pages...)
	is(t, "Lines", lines)(desk.Lines([]byte(all)))
	_, e := desk.Read(tiny(), idle(tiny()), []byte(all))
	same(t, "Read", e, api.ErrState)
}

// 10.6: what does not fit is an ErrChain
func TestWrongLines(t *testing.T) {
	good := []page{{0, "void a"}, {1, "rest 1"}}
	lines, begin := bind(good...)
	sum := strconv.FormatUint(lines[1].Sum, 10)
	next := func(number, tick, text string) string {
		return strconv.FormatUint(hash(sum+" "+number+" "+tick+" "+text), 10)
	}
	right := next("2", "1", "x")
	for _, line := range []string{
		"", " ", "x", "2", "2 1", "2 1 " + right, "2 1 " + right + " ", "2 1 " + next("2", "1", "") + " ", "2 1 " + next("2", "1", ""), "2  1 " + right + " x", "2 1  " + right + " x", " 2 1 " + right + " x", "2 1 " + right + "  x", "2 1 " + right + "x",
		"1 1 " + right + " x", "3 1 " + right + " x", "1 1 " + next("1", "1", "x") + " x", "3 1 " + next("3", "1", "x") + " x", "02 1 " + right + " x", "02 1 " + next("02", "1", "x") + " x", "+2 1 " + right + " x", "2 01 " + right + " x", "2 01 " + next("2", "01", "x") + " x", "2 +1 " + right + " x", "2 +1 " + next("2", "+1", "x") + " x",
		"2 -1 " + next("2", "-1", "x") + " x", "2 -0 " + next("2", "-0", "x") + " x", "2 1000000001 " + next("2", "1000000001", "x") + " x", "2 99999999999999999999 " + next("2", "99999999999999999999", "x") + " x", "2 x " + next("2", "x", "x") + " x", "x 1 " + next("x", "1", "x") + " x", "2  " + next("2", "", "x") + " x",
		"2 1 0 x", "2 1 0" + right + " x", "2 1 +" + right + " x", "2 1 -" + right + " x", "2 1 x x", "2 1 " + right + "0 x", "2 1 " + right[1:] + " x", "2 1 " + right + " y", "2 1 " + right + " x ", "2 0 " + right + " x", "2 1 " + right + " x\r", right + " 2 1 x", "2 1 x " + right,
		// the sum of a line that follows another one, or none
		"2 1 " + strconv.FormatUint(hash("0 2 1 x"), 10) + " x", "2 1 " + strconv.FormatUint(hash(strconv.FormatUint(lines[0].Sum, 10)+" 2 1 x"), 10) + " x", "2 1 " + strconv.FormatUint(hash("2 1 x"), 10) + " x",
	} {
		fails[[]api.Line](t, "Lines with "+line, api.ErrChain)(desk.Lines([]byte(begin + line + "\n")))
		fails[[]api.Line](t, "Lines with "+line+" and more", api.ErrChain)(desk.Lines([]byte(begin + line + "\n2 1 " + right + " x\n")))
		is(t, "Lines with a torn "+line, lines)(desk.Lines([]byte(begin + line)))
		fails[*desk.Desk](t, "Read with "+line, api.ErrChain)(desk.Read(tiny(), idle(tiny()), []byte(begin+line+"\n")))
	}
	_, all := bind(append(good, page{1, "x"})...)
	same(t, "the right line", all, begin+"2 1 "+right+" x\n")
	fails[[]api.Line](t, "Lines of an empty line", api.ErrChain)(desk.Lines([]byte("\n")))
	is(t, "Lines of a torn line alone", []api.Line{})(desk.Lines([]byte("0 0 1 x")))
}

// Details: ErrLimit for a line number 2,000, if all before it fit
func TestBookLimit(t *testing.T) {
	pages := slices.Repeat([]page{{0, "rest 0"}}, 2001)
	lines, full := bind(pages[:2000]...)
	_, more := bind(pages...)
	is(t, "Lines of 2,000", lines)(desk.Lines([]byte(full)))
	is(t, "Lines of 2,000 and a torn one", lines)(desk.Lines([]byte(more[:len(more)-1])))
	fails[[]api.Line](t, "Lines of 2,001", api.ErrLimit)(desk.Lines([]byte(more)))
	fails[*desk.Desk](t, "Read of 2,001", api.ErrLimit)(desk.Read(tiny(), idle(tiny()), []byte(more)))
	torn, e := desk.Read(tiny(), idle(tiny()), []byte(more[:len(more)-1]))
	does(t, "Read of 2,000 and a torn one", e)
	same(t, "its lines", len(torn.Lines()), 2000)
	for _, number := range []string{"0 0 ", "7 0 ", "1999 0 "} {
		spoiled := strings.Replace("\n"+more, "\n"+number, "\n"+number+"1", 1)[1:]
		fails[[]api.Line](t, "Lines of 2,001 with a wrong one", api.ErrChain)(desk.Lines([]byte(spoiled)))
		fails[*desk.Desk](t, "Read of 2,001 with a wrong one", api.ErrChain)(desk.Read(tiny(), idle(tiny()), []byte(spoiled)))
	}
	pages[3].text = "no command"
	_, more = bind(pages...)
	fails[*desk.Desk](t, "Read of 2,001 with one that is no command", api.ErrLimit)(desk.Read(tiny(), idle(tiny()), []byte(more)))
}

// 10.6, P10.6: the desk is there again, and goes on as the other one
func TestRead(t *testing.T) {
	d := worked(t)
	again, e := desk.Read(toy(), keen(), d.Bytes())
	does(t, "Read", e)
	sameFacts(t, "Read", tell(again, "demo"), tell(d, "demo"))
	q := demo()
	q.Name, q.Ticks = "q", 5
	for _, x := range []*desk.Desk{d, again} {
		same(t, "Turn again", x.Turn("ann", "q", keyOf(t, toy(), q, "ann")), api.ErrDuplicate)
		turned(t, x, toy(), q, "bob")
		_, e := x.Fire("q", stormy())
		does(t, "Fire", e)
		does(t, "Rest", x.Rest(3))
	}
	sameFacts(t, "what came behind Read", tell(again, "demo"), tell(d, "demo"))
	none, e := desk.Read(toy(), keen(), nil)
	does(t, "Read of nothing", e)
	sameFacts(t, "Read of nothing", tell(none), tell(opened(t, toy(), keen())))
}

// 10.6
func TestReadErrors(t *testing.T) {
	d := worked(t)
	for _, m := range brokenMachines() {
		fails[*desk.Desk](t, "Read without a machine", api.ErrInvalid)(desk.Read(m, keen(), d.Bytes()))
		fails[*desk.Desk](t, "Read of no book without a machine", api.ErrInvalid)(desk.Read(m, keen(), []byte("x\n")))
	}
	fails[*desk.Desk](t, "Read without a setup", api.ErrInvalid)(desk.Read(toy(), api.Setup{}, d.Bytes()))
	fails[*desk.Desk](t, "Read of no book", api.ErrChain)(desk.Read(toy(), keen(), []byte("x\n")))
	// for another machine or another setup the shots are others
	fails[*desk.Desk](t, "Read for another setup", api.ErrState)(desk.Read(toy(), idle(toy()), d.Bytes()))
	m := toy()
	m.Coils[0].Cool++
	m.Coils[1].MaxStep--
	fails[*desk.Desk](t, "Read for another machine", api.ErrState)(desk.Read(m, keen(), d.Bytes()))
	fails[*desk.Desk](t, "Read for the tiny machine", api.ErrState)(desk.Read(tiny(), idle(tiny()), d.Bytes()))
}

// 10.6, Details: a line that a command would not make
func TestOtherLines(t *testing.T) {
	pages := pagesOf(worked(t))
	kinds := map[string]int{}
	for i, p := range pages {
		kinds[strings.Fields(p.text)[0]] = i
	}
	file, turn, fire, rest, void := kinds["file"], kinds["turn"], kinds["fire"], kinds["rest"], kinds["void"]
	bad := func(what string, i int, p page) {
		t.Helper()
		l := slices.Clone(pages)
		l[i] = p
		_, all := bind(l...)
		fails[*desk.Desk](t, "Read with "+what, api.ErrState)(desk.Read(toy(), keen(), []byte(all)))
		_, all = bind(l[:i+1]...)
		fails[*desk.Desk](t, "Read up to "+what, api.ErrState)(desk.Read(toy(), keen(), []byte(all)))
	}
	for i, p := range pages {
		bad("another tick", i, page{p.tick + 1, p.text})
		bad("a blank more", i, page{p.tick, p.text + " "})
		bad("a blank before", i, page{p.tick, " " + p.text})
		bad("two blanks", i, page{p.tick, strings.Replace(p.text, " ", "  ", 1)})
		bad("another first word", i, page{p.tick, "x" + p.text})
		bad("a capital", i, page{p.tick, strings.ToUpper(p.text)})
		bad("the first word alone", i, page{p.tick, strings.Fields(p.text)[0]})
		bad("the first word and a blank", i, page{p.tick, strings.Fields(p.text)[0] + " "})
		bad("no word", i, page{p.tick, " "})
		bad("a sign more", i, page{p.tick, p.text + "|"})
		bad("no command", i, page{p.tick, "state"})
	}
	change := func(what string, i int, old, new string) {
		t.Helper()
		text := strings.Replace(pages[i].text, old, new, 1)
		if text == pages[i].text {
			t.Fatalf("%s changes nothing", what)
		}
		bad(what, i, page{pages[i].tick, text})
	}
	change("a plan that is none", file, "ticks 5", "ticks 0")
	change("a plan with a zero", file, "ticks 5", "ticks 05")
	change("a torn plan", file, "purse 1000000000000000|", "purse 1000000000000000")
	change("a wrong key", turn, "ann q ", "ann q 1")
	change("a key with a zero", turn, "ann q ", "ann q 0")
	change("a key with a sign", turn, "ann q ", "ann q +")
	change("a key of nobody", turn, "ann q", "Ann q")
	change("a key for nothing", turn, "ann q", "ann r")
	change("another number", fire, "fire 2", "fire 3")
	change("a number with a zero", fire, "fire 2", "fire 02")
	change("another plan", fire, "q", "demo")
	change("another mode", fire, "run", "warn")
	change("another digest", fire, "run ", "run 1")
	change("another scene", fire, "seed 1|", "seed 2|push 0 oh 9|")
	change("a scene that is none", fire, "seed 1|", "seed 1|x|")
	change("a torn scene", fire, "seed 1|", "seed 1")
	change("another rest", rest, "50", "49")
	change("a rest with a sign", rest, "50", "+50")
	change("a rest with a zero", rest, "50", "050")
	change("a rest below 0", rest, "50", "-50")
	change("a void of nothing", void, "demo", "p")
}

// P10.6: of every beginning of a book's bytes, Read gives the desk after the commands whose lines are whole
func TestBeginnings(t *testing.T) {
	d := opened(t, tiny(), idle(tiny()))
	p := named("p")
	after := []facts{tell(d, "p")}
	note := func(e api.Errno) {
		t.Helper()
		does(t, "a command", e)
		after = append(after, tell(d, "p"))
	}
	note(d.File(p))
	note(d.Turn("ann", "p", keyOf(t, tiny(), p, "ann")))
	note(d.Turn("bob", "p", keyOf(t, tiny(), p, "bob")))
	_, e := d.Fire("p", api.Scene{Seed: 3})
	note(e)
	note(d.Rest(10))
	note(d.Turn("eve", "p", keyOf(t, tiny(), p, "eve")))
	note(d.Void("p"))
	all := d.Bytes()
	for n := range len(all) + 1 {
		again, e := desk.Read(tiny(), idle(tiny()), all[:n])
		does(t, "Read of a beginning", e)
		sameFacts(t, "Read of "+strconv.Itoa(n)+" bytes", tell(again, "p"), after[bytes.Count(all[:n], []byte("\n"))])
	}
}

// P10.6: a changed byte is not read
func TestChangedBytes(t *testing.T) {
	d := worked(t)
	all := d.Bytes()
	r := rand.New(rand.NewSource(6))
	for i, b := range all {
		if b == '\n' {
			continue
		}
		changed := bytes.Clone(all)
		for changed[i] == b || changed[i] == '\n' {
			changed[i] = oneOf(r, ' ', '0', '1', '|', 'a', 'z', '-', byte(r.Intn(256)))
		}
		fails[[]api.Line](t, "Lines of a changed book", api.ErrChain)(desk.Lines(changed))
		fails[*desk.Desk](t, "Read of a changed book", api.ErrChain)(desk.Read(toy(), keen(), changed))
	}
	// neither lines that are exchanged, nor ones that are missing
	l := strings.SplitAfter(string(all), "\n")
	for i := range len(l) - 2 {
		missing := strings.Join(slices.Concat(l[:i], l[i+1:]), "")
		fails[*desk.Desk](t, "Read with a line missing", api.ErrChain)(desk.Read(toy(), keen(), []byte(missing)))
		exchanged := strings.Join(slices.Concat(l[:i], []string{l[i+1], l[i]}, l[i+2:]), "")
		fails[*desk.Desk](t, "Read with lines exchanged", api.ErrChain)(desk.Read(toy(), keen(), []byte(exchanged)))
		twice := strings.Join(slices.Concat(l[:i+1], l[i:]), "")
		fails[*desk.Desk](t, "Read with a line twice", api.ErrChain)(desk.Read(toy(), keen(), []byte(twice)))
	}
}
