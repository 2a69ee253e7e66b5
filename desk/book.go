package desk

import (
	"bytes"
	"iter"
	"slices"
	"strconv"
	"strings"

	"shotdesk/api"
)

const (
	lastTick  = 1000000000 // the greatest tick of a state
	lineParts = 4          // of a line's bytes: Number, Tick, Sum and Text
)

func within(n, from, to int) bool { return from <= n && n <= to }

func words(list ...string) string { return strings.Join(list, " ") }

func decimal(n uint64) string { return strconv.FormatUint(n, 10) }

// hash is the hash of a text, begun and multiplied as that of circuit.Digest.
func hash(text string) uint64 {
	sum := uint64(14695981039346656037)
	for i := range len(text) {
		sum = (sum ^ uint64(text[i])) * 1099511628211
	}
	return sum
}

// sumOf returns the Sum of a line behind one that has the Sum before.
func sumOf(before uint64, l api.Line) uint64 {
	return hash(words(decimal(before), strconv.Itoa(l.Number), strconv.Itoa(l.Tick), l.Text))
}

// write adds a line to the book.
func (d *Desk) write(text string) {
	l := api.Line{Number: len(d.lines), Tick: d.s.Tick, Text: text}
	before := uint64(0)
	if l.Number > 0 {
		before = d.lines[l.Number-1].Sum
	}
	l.Sum = sumOf(before, l)
	d.lines = append(d.lines, l)
}

// Lines returns the book's lines.
func (d *Desk) Lines() []api.Line {
	if d == nil {
		return nil
	}
	return slices.Clone(d.lines)
}

// Bytes returns the book's bytes.
func (d *Desk) Bytes() []byte {
	if d == nil {
		return nil
	}
	var b []byte
	for _, l := range d.lines {
		b = append(b, lineText(l)...)
	}
	return b
}

// lineText returns the bytes of a line.
func lineText(l api.Line) string {
	return words(strconv.Itoa(l.Number), strconv.Itoa(l.Tick), decimal(l.Sum), l.Text) + "\n"
}

// readLines yields the lines of a book, each with OK, up to the first that does not fit, which comes with its error.
func readLines(b []byte) iter.Seq2[api.Line, api.Errno] {
	return func(yield func(api.Line, api.Errno) bool) {
		number, before := 0, uint64(0)
		for raw := range bytes.Lines(b) {
			text := string(raw)
			if !strings.HasSuffix(text, "\n") {
				// a torn line, of which nobody knows how it would have gone on
				return
			}
			l, e := readLine(number, before, text)
			if !yield(l, e) || e != api.OK {
				return
			}
			number, before = number+1, l.Sum
		}
	}
}

// readLine returns the line that some bytes are, if they are that of a number behind one that has the Sum before.
func readLine(number int, before uint64, text string) (api.Line, api.Errno) {
	if number == api.MaxLines {
		return api.Line{}, api.ErrLimit
	}
	parts := append(strings.SplitN(strings.TrimSuffix(text, "\n"), " ", lineParts), make([]string, lineParts)...)
	l := api.Line{Number: number, Text: parts[3]}
	// what is no number makes other bytes
	l.Tick, _ = strconv.Atoi(parts[1])
	l.Sum = sumOf(before, l)
	if !within(l.Tick, 0, lastTick) || l.Text == "" || lineText(l) != text {
		return api.Line{}, api.ErrChain
	}
	return l, api.OK
}

// Lines returns the lines of a book's bytes.
func Lines(b []byte) ([]api.Line, api.Errno) {
	var list []api.Line
	for l, e := range readLines(b) {
		if e != api.OK {
			return nil, e
		}
		list = append(list, l)
	}
	return list, api.OK
}
