package desk

import (
	"slices"
	"strconv"
	"strings"

	"shotdesk/api"
	"shotdesk/circuit"
	"shotdesk/plan"
)

// The first words of a script's lines that ask for something, and the line that ends a block.
const (
	stateWord = "state"
	shotsWord = "shots"
	textWord  = "text"
	blockEnd  = "."
)

// An operator does at a desk what a script says.
type operator struct {
	*Desk
	left []string // the lines that were not read yet
	last string   // the Text of the last shot
}

// A lineForm says how many words a line has that begins with some word, and what comes of it.
type lineForm struct {
	count  int
	answer func(line []string) string
}

func (o *operator) forms() map[string]lineForm {
	return map[string]lineForm{
		fileWord:  {1, o.file},
		turnWord:  {3, o.turn},
		fireWord:  {2, o.fire},
		restWord:  {2, o.rest},
		voidWord:  {2, o.void},
		stateWord: {1, o.state},
		shotsWord: {1, o.number},
		textWord:  {1, o.text},
	}
}

// Script runs the commands of a script on a new desk and returns what they print.
func Script(m api.Machine, x api.Setup, s string) (string, api.Errno) {
	d, e := New(m, x)
	if e != api.OK {
		return "", e
	}
	if len(s) > api.MaxText {
		return "", api.ErrLong
	}
	o := operator{Desk: d}
	for line := range strings.Lines(s) {
		o.left = append(o.left, strings.TrimSuffix(line, "\n"))
	}
	forms := o.forms()
	var printed strings.Builder
	for len(o.left) > 0 {
		line := o.next()
		if line != "" {
			printed.WriteString(answer(forms, strings.Split(line, " ")))
		}
	}
	return printed.String(), api.OK
}

func answer(forms map[string]lineForm, line []string) string {
	form, known := forms[line[0]]
	if !known || len(line) != form.count || slices.Contains(line, "") {
		return verdict(api.ErrCommand)
	}
	return form.answer(line)
}

// verdict returns what a command prints.
func verdict(e api.Errno) string {
	if e == api.OK {
		return "ok\n"
	}
	return words("error", strconv.Itoa(int(e))) + "\n"
}

// next takes the next line.
func (o *operator) next() string {
	line := o.left[0]
	o.left = o.left[1:]
	return line
}

// block takes the lines of a block and returns its text.
func (o *operator) block() string {
	var text strings.Builder
	for len(o.left) > 0 {
		line := o.next()
		if line == blockEnd {
			break
		}
		text.WriteString(line + "\n")
	}
	return text.String()
}

func (o *operator) file([]string) string {
	p, _, e := plan.Parse(o.m, o.block())
	if e == api.OK {
		e = o.File(p)
	}
	return verdict(e)
}

func (o *operator) turn(line []string) string {
	person, name := line[1], line[2]
	// where there is no plan, no key is looked at
	return verdict(o.Turn(person, name, o.key(person, o.plans[name])))
}

func (o *operator) fire(line []string) string {
	s, e := ParseScene(o.m, o.block())
	if e != api.OK {
		return verdict(e)
	}
	h, e := o.Fire(line[1], s)
	if e == api.OK {
		o.last = Text(h)
	}
	return verdict(e)
}

func (o *operator) rest(line []string) string {
	k, bad := strconv.Atoi(line[1])
	// Atoi also reads plus signs and leading zeros, which no text has
	if bad != nil || strconv.Itoa(k) != line[1] || !within(k, -api.MaxValue, api.MaxValue) {
		return verdict(api.ErrCommand)
	}
	return verdict(o.Rest(k))
}

func (o *operator) void(line []string) string { return verdict(o.Void(line[1])) }

func (o *operator) state([]string) string { return decimal(circuit.Digest(o.s)) + "\n" }

func (o *operator) number([]string) string { return strconv.Itoa(o.shots) + "\n" }

func (o *operator) text([]string) string { return o.last }
