package desk

import (
	"strconv"
	"strings"

	"shotdesk/api"
	"shotdesk/plan"
)

// lineSign stands for a line feed where a text of several lines stands in one.
const lineSign = "|"

func flat(text string) string { return strings.ReplaceAll(text, "\n", lineSign) }

func unflat(text string) string { return strings.ReplaceAll(text, lineSign, "\n") }

// Read returns the desk that a book makes.
func Read(m api.Machine, x api.Setup, b []byte) (*Desk, api.Errno) {
	d, e := New(m, x)
	if e != api.OK {
		return nil, e
	}
	list, e := Lines(b)
	if e != api.OK {
		return nil, e
	}
	for _, l := range list {
		if !d.repeat(l) {
			return nil, api.ErrState
		}
	}
	return d, api.OK
}

// repeat makes the command of a line again, and reports whether that makes the line again.
func (d *Desk) repeat(l api.Line) bool {
	c, known := d.commandOf(l.Text)
	if !known {
		return false
	}
	e := d.run(c)
	return e == api.OK && d.lines[l.Number] == l
}

// commandOf returns the command of a Text, if it is one of a command at all: as the command makes a Text again, not all that the Text says needs to be looked at.
func (d *Desk) commandOf(text string) (command, bool) {
	first, rest, _ := strings.Cut(text, " ")
	// a shot's Text is that with the most parts, the last of which is its scene
	parts := append(strings.SplitN(rest, " ", 5), "", "", "", "")
	switch first {
	case fileWord:
		p, _, e := plan.Parse(d.m, unflat(rest))
		return filing{p}, e == api.OK
	case turnWord:
		key, e := strconv.ParseUint(parts[2], 10, 64)
		return turning{parts[0], parts[1], key}, e == nil
	case fireWord:
		s, e := ParseScene(d.m, unflat(parts[4]))
		return &firing{name: parts[1], scene: s}, e == api.OK
	case restWord:
		k, e := strconv.Atoi(rest)
		return resting{k}, e == nil
	case voidWord:
		return voiding{rest}, true
	}
	return nil, false
}
