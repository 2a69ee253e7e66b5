package machine

import (
	"strconv"
	"strings"

	"shotdesk/api"
)

// The first words of lines.
const (
	machineWord = "machine"
	coilWord    = "coil"
	shellWord   = "shell"
	limitWord   = "limit"
	gridWord    = "grid"
	sensorWord  = "sensor"
)

// kindWords are the words of the kinds of sensors, from SFlux on.
var kindWords = [...]string{"flux", "radial", "vertical"}

// writer writes lines of words.
type writer struct{ strings.Builder }

func (w *writer) words(words ...string) {
	w.WriteString(strings.Join(words, " "))
}

// numbers ends a line with numbers.
func (w *writer) numbers(numbers ...int) {
	for _, n := range numbers {
		w.WriteByte(' ')
		w.WriteString(strconv.Itoa(n))
	}
	w.WriteByte('\n')
}

// Format writes a machine, line by line.
func Format(m api.Machine) string {
	if Check(m) != api.OK {
		return ""
	}
	var w writer
	w.words(machineWord, m.Name)
	w.numbers()
	for _, c := range m.Coils {
		w.words(coilWord, c.Name)
		w.numbers(c.R, c.Z, c.Turns, c.MaxCurrent, c.MaxStep, c.MaxHeat, c.Cool)
	}
	for _, s := range m.Shells {
		w.words(shellWord)
		w.numbers(s.R, s.Z, s.Self, s.Loss)
	}
	for _, p := range m.Limits {
		w.words(limitWord)
		w.numbers(p.R, p.Z)
	}
	w.words(gridWord)
	w.numbers(m.Grid.R, m.Grid.Z, m.Grid.NR, m.Grid.NZ, m.Grid.Step)
	for _, s := range m.Sensors {
		w.words(sensorWord, s.Name, kindWords[s.Kind-api.SFlux])
		w.numbers(s.R, s.Z, s.Error)
	}
	return w.String()
}
