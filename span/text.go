package span

import (
	"strconv"
	"strings"

	"shotdesk/api"
)

const points = ".."

// Format writes a span as in -5..12.
func Format(a api.Span) string {
	if !Valid(a) {
		return ""
	}
	return strconv.Itoa(a.Lo) + points + strconv.Itoa(a.Hi)
}

// Parse reads what Format writes.
func Parse(s string) (api.Span, api.Errno) {
	left, right, _ := strings.Cut(s, points)
	lo, badLo := strconv.Atoi(left)
	hi, badHi := strconv.Atoi(right)
	a := api.Span{Lo: lo, Hi: hi}
	// Atoi also reads plus signs and leading zeros, which Format does not write
	if badLo != nil || badHi != nil || Format(a) != s {
		return api.Span{}, api.ErrSyntax
	}
	return a, api.OK
}
