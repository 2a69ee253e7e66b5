package plan

import (
	"strconv"
	"strings"

	"shotdesk/api"
	"shotdesk/guard"
	"shotdesk/machine"
	"shotdesk/shape"
)

// How far a text has been read: the kind of its last line.
const (
	atStart = iota
	atPlan
	atTicks
	atCurrent
	atWaves
	atAims
	atBounds
	atRules
	atSafety
	atPurse
)

// A lineForm says what kind of line a first word begins, between which kinds it may follow, and how the rest is read.
type lineForm struct {
	kind        int
	first, last int
	read        func()
}

func (r *reader) forms() map[string]lineForm {
	return map[string]lineForm{
		planWord:    {atPlan, atStart, atStart, r.plan},
		ticksWord:   {atTicks, atPlan, atPlan, r.ticks},
		currentWord: {atCurrent, atTicks, atTicks, r.current},
		coilWord:    {atWaves, atCurrent, atWaves, r.coil},
		aimWord:     {atAims, atCurrent, atAims, r.aim},
		boundWord:   {atBounds, atCurrent, atBounds, r.bound},
		ruleWord:    {atRules, atCurrent, atRules, r.rule},
		safetyWord:  {atSafety, atCurrent, atRules, r.safety},
		purseWord:   {atPurse, atSafety, atSafety, r.purse},
	}
}

// giveUp is what a reader panics with: the line at which a text is not a plan's.
type giveUp struct{ line int }

// A reader reads a text line by line into a plan.
type reader struct {
	p     api.Plan
	line  int      // the number of the line that is being read
	at    int      // how far the text has been read
	words []string // what is left of the line
}

// Parse reads what Format writes.
func Parse(m api.Machine, s string) (p api.Plan, line int, e api.Errno) {
	if machine.Check(m) != api.OK {
		return api.Plan{}, 0, api.ErrInvalid
	}
	if len(s) > api.MaxText {
		return api.Plan{}, 0, api.ErrLong
	}
	e = api.ErrSyntax // stands if the reader does not come back
	defer func() {
		switch x := recover().(type) {
		case giveUp:
			line = x.line
		}
	}()
	read := readText(s)
	if e = Check(m, read); e == api.OK {
		p = read
	}
	return p, 0, e
}

func readText(s string) api.Plan {
	var r reader
	forms := r.forms()
	for text := range strings.Lines(s) {
		text, ended := strings.CutSuffix(text, "\n")
		r.need(ended)
		r.words = strings.Split(text, " ")
		form, known := forms[r.word()]
		r.need(known && within(r.at, form.first, form.last))
		form.read()
		r.need(len(r.words) == 0)
		r.at = form.kind
		r.line++
	}
	r.need(r.at == atPurse)
	return r.p
}

func (r *reader) need(holds bool) {
	if !holds {
		panic(giveUp{r.line})
	}
}

// word takes the line's next word.
func (r *reader) word() string {
	r.need(len(r.words) > 0 && r.words[0] != "")
	word := r.words[0]
	r.words = r.words[1:]
	return word
}

func (r *reader) number(word string) int {
	n, bad := strconv.Atoi(word)
	// Atoi also reads plus signs and leading zeros, which Format does not write
	r.need(bad == nil && strconv.Itoa(n) == word && within(n, -api.MaxValue, api.MaxValue))
	return n
}

// numbers takes a number from the line for each of the places.
func (r *reader) numbers(places ...*int) {
	for _, place := range places {
		*place = r.number(r.word())
	}
}

// corners takes all corners that are left of the line.
func (r *reader) corners() []api.Corner {
	r.need(len(r.words) > 0)
	var l []api.Corner
	for len(r.words) > 0 {
		at, value, _ := strings.Cut(r.word(), cornerSign)
		l = append(l, api.Corner{At: r.number(at), Value: r.number(value)})
	}
	return l
}

// rest takes all that is left of the line.
func (r *reader) rest() string {
	text := strings.Join(r.words, " ") + "\n"
	r.words = nil
	return text
}

func (r *reader) plan() {
	r.p.Name = r.word()
	r.need(r.word() == byWord)
	r.p.Owner = r.word()
}

func (r *reader) ticks() { r.numbers(&r.p.Ticks) }

func (r *reader) current() { r.p.Current = r.corners() }

func (r *reader) coil() {
	w := api.Wave{Coil: r.word()}
	w.Corners = r.corners()
	r.p.Waves = append(r.p.Waves, w)
}

func (r *reader) aim() {
	var a api.Aim
	r.numbers(&a.At, &a.Goal.R, &a.Goal.Z)
	r.p.Aims = append(r.p.Aims, a)
}

func (r *reader) bound() {
	l, _, e := shape.ParseBounds(r.rest())
	r.need(e == api.OK)
	r.p.Bounds = append(r.p.Bounds, l...)
}

func (r *reader) rule() {
	l, _, e := guard.ParseRules(r.rest())
	r.need(e == api.OK)
	r.p.Rules = append(r.p.Rules, l...)
}

func (r *reader) safety() { r.numbers(&r.p.Safety.Shell, &r.p.Safety.Force) }

func (r *reader) purse() { r.numbers(&r.p.Purse) }
