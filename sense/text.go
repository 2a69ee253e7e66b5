package sense

import (
	"strconv"
	"strings"

	"shotdesk/api"
	"shotdesk/machine"
)

// FormatFaults writes faults, line by line.
func FormatFaults(m api.Machine, l []api.Fault) string {
	if !ValidFaults(m, l) {
		return ""
	}
	var text strings.Builder
	for _, f := range l {
		text.WriteString(faultLine(m, f))
	}
	return text.String()
}

// faultLine returns the line of a valid fault.
func faultLine(m api.Machine, f api.Fault) string {
	words := []string{faultKinds[f.Kind].word, strconv.Itoa(f.At), m.Sensors[f.Sensor].Name}
	if f.Kind != api.FCut {
		words = append(words, strconv.Itoa(f.N))
	}
	return strings.Join(words, " ") + "\n"
}

// ParseFaults reads what FormatFaults writes.
func ParseFaults(m api.Machine, s string) (l []api.Fault, line int, e api.Errno) {
	if machine.Check(m) != api.OK {
		return nil, 0, api.ErrInvalid
	}
	if len(s) > api.MaxText {
		return nil, 0, api.ErrLong
	}
	for text := range strings.Lines(s) {
		f := guessFault(m, text)
		if len(l) == api.MaxFaults || !validFault(m, f) || faultLine(m, f) != text {
			return nil, len(l), api.ErrSyntax
		}
		l = append(l, f)
	}
	return l, 0, api.OK
}

// guessFault returns the fault that a line would be of, if it is one of a fault at all: what the line tells is held against it, so that here no word needs to fit.
func guessFault(m api.Machine, line string) api.Fault {
	words := append(strings.Fields(line), "", "", "", "")
	f := api.Fault{Sensor: machine.Sensor(m, words[2])}
	for kind, known := range faultKinds {
		if known.word == words[0] {
			f.Kind = kind
		}
	}
	f.At, _ = strconv.Atoi(words[1])
	f.N, _ = strconv.Atoi(words[3])
	return f
}
