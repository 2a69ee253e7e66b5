package shape

import (
	"slices"
	"strings"

	"shotdesk/api"
	"shotdesk/span"
)

// FormatBounds writes bounds, line by line.
func FormatBounds(l []api.Bound) string {
	if !ValidBounds(l) {
		return ""
	}
	var text strings.Builder
	for _, b := range l {
		text.WriteString(quantities()[b.Kind].word + " " + span.Format(b.Keep) + "\n")
	}
	return text.String()
}

// ParseBounds reads what FormatBounds writes.
func ParseBounds(s string) (l []api.Bound, line int, e api.Errno) {
	if len(s) > api.MaxText {
		return nil, 0, api.ErrLong
	}
	for text := range strings.Lines(s) {
		b, known := parseBound(text)
		if !known || len(l) == maxBounds {
			return nil, len(l), api.ErrSyntax
		}
		l = append(l, b)
	}
	return l, 0, api.OK
}

// parseBound reads a line with its line feed, and reports whether it is one of a bound.
func parseBound(line string) (api.Bound, bool) {
	line, ended := strings.CutSuffix(line, "\n")
	word, keep, _ := strings.Cut(line, " ")
	list := quantities()
	kind := slices.IndexFunc(list[:], func(q quantity) bool { return q.word == word })
	a, e := span.Parse(keep)
	return api.Bound{Kind: kind, Keep: a}, ended && validKind(kind) && e == api.OK
}
