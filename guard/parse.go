package guard

import (
	"strconv"
	"strings"

	"shotdesk/api"
)

// giveUp is what a reader panics with if a text is not what it is read as.
type giveUp struct{}

// A reader takes a text word by word.
type reader struct {
	words []string // those that are left
}

func newReader(s string) *reader {
	return &reader{strings.FieldsFunc(s, func(sign rune) bool { return sign == ' ' })}
}

func (r *reader) need(holds bool) {
	if !holds {
		panic(giveUp{})
	}
}

// word takes the next word.
func (r *reader) word() string {
	r.need(len(r.words) > 0)
	word := r.words[0]
	r.words = r.words[1:]
	return word
}

// takes takes the next word if it is the given one.
func (r *reader) takes(word string) bool {
	next := len(r.words) > 0 && r.words[0] == word
	if next {
		r.words = r.words[1:]
	}
	return next
}

// expect takes the next word, which has to be the given one.
func (r *reader) expect(word string) { r.need(r.takes(word)) }

func (r *reader) end() { r.need(len(r.words) == 0) }

func (r *reader) name() string {
	word := r.word()
	r.need(validName(word))
	return word
}

func (r *reader) number() int {
	word := r.word()
	n, bad := strconv.Atoi(word)
	// Atoi also reads plus signs and leading zeros, which no text has
	r.need(bad == nil && strconv.Itoa(n) == word && within(n, -api.MaxValue, api.MaxValue))
	return n
}

// mode takes the word of a mode.
func (r *reader) mode() int {
	word := r.word()
	for mode, known := range modeWords {
		if known == word {
			return mode
		}
	}
	panic(giveUp{})
}

// either takes a condition, as far as it goes.
func (r *reader) either() api.Cond {
	parts := []api.Cond{r.both()}
	for r.takes(orWord) {
		parts = append(parts, r.both())
	}
	return joined(api.COr, parts)
}

// both takes what stands between two words or.
func (r *reader) both() api.Cond {
	parts := []api.Cond{r.part()}
	for r.takes(andWord) {
		parts = append(parts, r.part())
	}
	return joined(api.CAnd, parts)
}

func joined(op int, parts []api.Cond) api.Cond {
	if len(parts) == 1 {
		return parts[0]
	}
	return api.Cond{Op: op, Kids: parts}
}

// part takes what stands between two words and.
func (r *reader) part() api.Cond {
	switch {
	case r.takes(notWord):
		return api.Cond{Op: api.CNot, Kids: []api.Cond{r.part()}}
	case r.takes(openWord):
		c := r.either()
		r.expect(closeWord)
		return c
	}
	return r.comparison()
}

func (r *reader) comparison() api.Cond {
	c := api.Cond{Name: r.name()}
	switch word := r.word(); word {
	case lessWord:
		c.Op, c.N = api.CLess, r.number()
	case moreWord:
		c.Op, c.N = api.CMore, r.number()
	default:
		r.need(word == fromWord)
		c.Op, c.N = api.CIs, r.number()
		r.expect(toWord)
		c.M = r.number()
		r.need(c.N <= c.M)
	}
	return c
}

// ParseCond reads a condition, also one with more blanks and brackets than FormatCond writes.
func ParseCond(s string) (c api.Cond, e api.Errno) {
	if len(s) > api.MaxText {
		return api.Cond{}, api.ErrLong
	}
	defer func() {
		switch recover().(type) {
		case giveUp:
			e = api.ErrSyntax
		}
	}()
	r := newReader(s)
	read := r.either()
	r.end()
	// the reader asks for all that is valid but the number of nodes
	if !ValidCond(read) {
		return api.Cond{}, api.ErrLimit
	}
	return read, api.OK
}

// ParseRules reads what FormatRules writes.
func ParseRules(s string) (l []api.Rule, line int, e api.Errno) {
	if len(s) > api.MaxText {
		return nil, 0, api.ErrLong
	}
	var read []api.Rule
	defer func() {
		switch recover().(type) {
		case giveUp:
			line, e = len(read), api.ErrSyntax
		}
	}()
	for text := range strings.Lines(s) {
		r := newReader(strings.TrimSuffix(text, "\n"))
		x := r.rule()
		// a condition may have more blanks and brackets than are written, a line of a rule may not
		r.need(ruleLine(x) == text && ValidRules(append(read, x)))
		read = append(read, x)
	}
	return read, 0, api.OK
}

// rule takes the words of a line.
func (r *reader) rule() api.Rule {
	x := api.Rule{Name: r.name()}
	r.expect(whenWord)
	x.When = r.either()
	r.expect(forWord)
	x.For = r.number()
	r.expect(doubtWord)
	x.Doubt = r.number()
	r.expect(modeWord)
	x.Mode = r.mode()
	r.expect(clearWord)
	x.Clear = r.number()
	r.end()
	return x
}
