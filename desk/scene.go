package desk

import (
	"slices"
	"strconv"
	"strings"

	"shotdesk/api"
	"shotdesk/machine"
	"shotdesk/sense"
)

// maxPushes is how many pushes a scene has at most.
const maxPushes = api.MaxFaults

// The first words of a scene's lines that are not those of faults.
const (
	seedWord = "seed"
	pushWord = "push"
)

// ValidScene reports whether a scene is valid for a machine.
func ValidScene(m api.Machine, s api.Scene) bool {
	unfit := func(p api.Push) bool {
		return !within(p.At, 0, api.MaxTicks) || !within(p.Coil, 0, len(m.Coils)-1) || !within(p.Change, -api.MaxAmp, api.MaxAmp)
	}
	return sense.ValidFaults(m, s.Faults) && len(s.Pushes) <= maxPushes && !slices.ContainsFunc(s.Pushes, unfit)
}

// FormatScene writes a scene, line by line.
func FormatScene(m api.Machine, s api.Scene) string {
	if !ValidScene(m, s) {
		return ""
	}
	text := words(seedWord, strconv.Itoa(int(s.Seed))) + "\n" + sense.FormatFaults(m, s.Faults)
	for _, p := range s.Pushes {
		text += words(pushWord, strconv.Itoa(p.At), m.Coils[p.Coil].Name, strconv.Itoa(p.Change)) + "\n"
	}
	return text
}

// ParseScene reads what FormatScene writes.
func ParseScene(m api.Machine, s string) (api.Scene, api.Errno) {
	if machine.Check(m) != api.OK {
		return api.Scene{}, api.ErrInvalid
	}
	if len(s) > api.MaxText {
		return api.Scene{}, api.ErrLong
	}
	scene := guessScene(m, s)
	if FormatScene(m, scene) != s {
		return api.Scene{}, api.ErrSyntax
	}
	return scene, api.OK
}

// guessScene returns the scene that a text would be of, if it is one of a scene at all, as in guessLine.
func guessScene(m api.Machine, text string) api.Scene {
	var s api.Scene
	var faults strings.Builder
	for line := range strings.Lines(text) {
		parts := append(strings.Split(strings.TrimSuffix(line, "\n"), " "), "", "", "")
		switch parts[0] {
		case seedWord:
			seed, _ := strconv.ParseUint(parts[1], 10, 32)
			s.Seed = uint32(seed)
		case pushWord:
			p := api.Push{Coil: machine.Coil(m, parts[2])}
			p.At, _ = strconv.Atoi(parts[1])
			p.Change, _ = strconv.Atoi(parts[3])
			s.Pushes = append(s.Pushes, p)
		default:
			faults.WriteString(line)
		}
	}
	s.Faults, _, _ = sense.ParseFaults(m, faults.String())
	return s
}
