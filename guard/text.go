package guard

import (
	"strconv"
	"strings"

	"shotdesk/api"
)

// FormatCond writes a condition.
func FormatCond(c api.Cond) string {
	if !ValidCond(c) {
		return ""
	}
	return condText(c)
}

// condText returns the text of a valid condition.
func condText(c api.Cond) string {
	switch c.Op {
	case api.CAnd:
		return strings.Join(kidTexts(c), " "+andWord+" ")
	case api.COr:
		return strings.Join(kidTexts(c), " "+orWord+" ")
	case api.CNot:
		return notWord + " " + kidTexts(c)[0]
	case api.CLess:
		return words(c.Name, lessWord, strconv.Itoa(c.N))
	case api.CMore:
		return words(c.Name, moreWord, strconv.Itoa(c.N))
	}
	return words(c.Name, fromWord, strconv.Itoa(c.N), toWord, strconv.Itoa(c.M))
}

func words(list ...string) string { return strings.Join(list, " ") }

// kidTexts returns the texts of a node's Kids, with brackets around those that would be read as something else without them.
func kidTexts(c api.Cond) []string {
	list := make([]string, len(c.Kids))
	for i, kid := range c.Kids {
		list[i] = condText(kid)
		if kid.Op == api.COr || kid.Op == api.CAnd && c.Op != api.COr {
			list[i] = words(openWord, list[i], closeWord)
		}
	}
	return list
}

// FormatRules writes rules, line by line.
func FormatRules(l []api.Rule) string {
	if !ValidRules(l) {
		return ""
	}
	var text strings.Builder
	for _, x := range l {
		text.WriteString(ruleLine(x))
	}
	return text.String()
}

// ruleLine returns the line of a rule, whether it is valid or not.
func ruleLine(x api.Rule) string {
	return words(x.Name, whenWord, FormatCond(x.When), forWord, strconv.Itoa(x.For), doubtWord, strconv.Itoa(x.Doubt),
		modeWord, Word(x.Mode), clearWord, strconv.Itoa(x.Clear)) + "\n"
}
