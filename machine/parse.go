package machine

import (
	"strconv"
	"strings"

	"shotdesk/api"
)

// How far a text has been read: the kind of its last line.
const (
	atStart = iota
	atMachine
	atCoils
	atShells
	atLimits
	atGrid
	atSensors
)

// A lineForm says what kind of line a first word begins, between which kinds it may follow, and how the rest is read.
type lineForm struct {
	kind        int
	first, last int
	read        func(*reader)
}

func lineForms() map[string]lineForm {
	return map[string]lineForm{
		machineWord: {atMachine, atStart, atStart, (*reader).machine},
		coilWord:    {atCoils, atMachine, atCoils, (*reader).coil},
		shellWord:   {atShells, atMachine, atShells, (*reader).shell},
		limitWord:   {atLimits, atMachine, atLimits, (*reader).limit},
		gridWord:    {atGrid, atMachine, atLimits, (*reader).grid},
		sensorWord:  {atSensors, atGrid, atSensors, (*reader).sensor},
	}
}

// giveUp is what a reader panics with: the line at which a text is not a machine's.
type giveUp struct{ line int }

// A reader reads a text line by line into a machine.
type reader struct {
	m     api.Machine
	line  int      // the number of the line that is being read
	at    int      // how far the text has been read
	words []string // what is left of the line
}

// Parse reads what Format writes.
func Parse(s string) (m api.Machine, line int, e api.Errno) {
	if len(s) > api.MaxText {
		return api.Machine{}, 0, api.ErrLong
	}
	e = api.ErrSyntax // stands if the reader does not come back
	defer func() {
		switch p := recover().(type) {
		case giveUp:
			line = p.line
		}
	}()
	read := readText(s)
	if e = Check(read); e == api.OK {
		m = read
	}
	return m, 0, e
}

func readText(s string) api.Machine {
	var r reader
	forms := lineForms()
	for s != "" {
		line, rest, ended := strings.Cut(s, "\n")
		r.need(ended)
		r.words = strings.Split(line, " ")
		form, known := forms[r.word()]
		r.need(known && within(r.at, form.first, form.last))
		form.read(&r)
		r.need(len(r.words) == 0)
		r.at = form.kind
		r.line++
		s = rest
	}
	r.need(r.at >= atGrid)
	return r.m
}

func (r *reader) need(holds bool) {
	if !holds {
		panic(giveUp{r.line})
	}
}

// word takes the line's next word.
func (r *reader) word() string {
	r.need(len(r.words) > 0 && r.words[0] != "")
	word := r.words[0]
	r.words = r.words[1:]
	return word
}

// numbers takes a number from the line for each of the places.
func (r *reader) numbers(places ...*int) {
	for _, place := range places {
		word := r.word()
		n, bad := strconv.Atoi(word)
		// Atoi also reads plus signs and leading zeros, which Format does not write
		r.need(bad == nil && strconv.Itoa(n) == word && within(n, -api.MaxValue, api.MaxValue))
		*place = n
	}
}

func (r *reader) machine() { r.m.Name = r.word() }

func (r *reader) coil() {
	c := api.Coil{Name: r.word()}
	r.numbers(&c.R, &c.Z, &c.Turns, &c.MaxCurrent, &c.MaxStep, &c.MaxHeat, &c.Cool)
	r.m.Coils = append(r.m.Coils, c)
}

func (r *reader) shell() {
	var s api.Shell
	r.numbers(&s.R, &s.Z, &s.Self, &s.Loss)
	r.m.Shells = append(r.m.Shells, s)
}

func (r *reader) limit() {
	var p api.Point
	r.numbers(&p.R, &p.Z)
	r.m.Limits = append(r.m.Limits, p)
}

func (r *reader) grid() {
	g := &r.m.Grid
	r.numbers(&g.R, &g.Z, &g.NR, &g.NZ, &g.Step)
}

func (r *reader) sensor() {
	s := api.Sensor{Name: r.word()}
	s.Kind = r.kind()
	r.numbers(&s.R, &s.Z, &s.Error)
	r.m.Sensors = append(r.m.Sensors, s)
}

// kind takes a kind of sensor from the line.
func (r *reader) kind() int {
	word := r.word()
	for i, known := range kindWords {
		if word == known {
			return api.SFlux + i
		}
	}
	panic(giveUp{r.line})
}
