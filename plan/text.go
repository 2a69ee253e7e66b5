package plan

import (
	"strconv"
	"strings"

	"shotdesk/api"
	"shotdesk/guard"
	"shotdesk/shape"
)

// The words of lines, and what stands between the two numbers of a corner.
const (
	planWord    = "plan"
	byWord      = "by"
	ticksWord   = "ticks"
	currentWord = "current"
	coilWord    = "coil"
	aimWord     = "aim"
	boundWord   = "bound"
	ruleWord    = "rule"
	safetyWord  = "safety"
	purseWord   = "purse"
	cornerSign  = ":"
)

// A writer writes lines of words.
type writer struct{ text strings.Builder }

func (w *writer) line(words ...string) { w.text.WriteString(strings.Join(words, " ") + "\n") }

// numbers writes a line of a word and numbers.
func (w *writer) numbers(word string, numbers ...int) {
	words := []string{word}
	for _, n := range numbers {
		words = append(words, strconv.Itoa(n))
	}
	w.line(words...)
}

// corners writes a line of words and corners.
func (w *writer) corners(l []api.Corner, words ...string) {
	var list []string
	list = append(list, words...)
	for _, c := range l {
		list = append(list, strconv.Itoa(c.At)+cornerSign+strconv.Itoa(c.Value))
	}
	w.line(list...)
}

// lines writes a word before each line of a text.
func (w *writer) lines(word, text string) {
	for line := range strings.Lines(text) {
		w.text.WriteString(word + " " + line)
	}
}

// Format writes a plan, line by line.
func Format(m api.Machine, p api.Plan) string {
	if Check(m, p) != api.OK {
		return ""
	}
	var w writer
	w.line(planWord, p.Name, byWord, p.Owner)
	w.numbers(ticksWord, p.Ticks)
	w.corners(p.Current, currentWord)
	for _, x := range p.Waves {
		w.corners(x.Corners, coilWord, x.Coil)
	}
	for _, a := range p.Aims {
		w.numbers(aimWord, a.At, a.Goal.R, a.Goal.Z)
	}
	w.lines(boundWord, shape.FormatBounds(p.Bounds))
	w.lines(ruleWord, guard.FormatRules(p.Rules))
	w.numbers(safetyWord, p.Safety.Shell, p.Safety.Force)
	w.numbers(purseWord, p.Purse)
	return w.text.String()
}
