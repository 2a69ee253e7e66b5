package guard

import (
	"maps"
	"slices"

	"shotdesk/api"
	"shotdesk/span"
)

// ValidCond reports whether a condition is valid.
func ValidCond(c api.Cond) bool {
	var k checker
	return k.valid(c)
}

// A checker counts the nodes that it meets, so that it comes to an end even where Kids hold themselves.
type checker struct{ nodes int }

func (k *checker) valid(c api.Cond) bool {
	k.nodes++
	if k.nodes > api.MaxNodes || !validNode(c) {
		return false
	}
	return !slices.ContainsFunc(c.Kids, func(kid api.Cond) bool { return !k.valid(kid) })
}

// validNode reports whether a node is as it has to be, whatever its Kids are.
func validNode(c api.Cond) bool {
	switch kids := len(c.Kids); c.Op {
	case api.CAnd, api.COr:
		return kids >= 2 && unused(c)
	case api.CNot:
		return kids == 1 && unused(c)
	case api.CLess, api.CMore:
		return kids == 0 && validName(c.Name) && within(c.N, -api.MaxValue, api.MaxValue) && c.M == 0
	case api.CIs:
		return kids == 0 && validName(c.Name) && span.Valid(api.Span{Lo: c.N, Hi: c.M})
	}
	return false
}

// unused reports whether the fields are zero that only comparisons use.
func unused(c api.Cond) bool { return c.Name == "" && c.N == 0 && c.M == 0 }

// Eval returns the truth of a condition.
func Eval(c api.Cond, l []api.Signal) api.Truth {
	if !ValidCond(c) {
		return api.Maybe
	}
	return truth(c, valuesOf(l))
}

// valuesOf returns the signals' values by their names.
func valuesOf(l []api.Signal) map[string]api.Span {
	values := make(map[string]api.Span, len(l))
	for _, s := range l {
		if _, there := values[s.Name]; !there {
			values[s.Name] = s.Value
		}
	}
	return values
}

// truth returns the truth of a valid condition.
func truth(c api.Cond, values map[string]api.Span) api.Truth {
	switch c.Op {
	case api.CAnd:
		return span.And(truths(c.Kids, values))
	case api.COr:
		return span.Or(truths(c.Kids, values))
	case api.CNot:
		return span.Not(truth(c.Kids[0], values))
	}
	value, there := values[c.Name]
	if !there {
		return api.Maybe
	}
	return compared(c, value)
}

func truths(l []api.Cond, values map[string]api.Span) []api.Truth {
	list := make([]api.Truth, len(l))
	for i, c := range l {
		list[i] = truth(c, values)
	}
	return list
}

// compared returns the truth of a comparison of a value that need not be a valid span.
func compared(c api.Cond, value api.Span) api.Truth {
	point := api.Span{Lo: c.N, Hi: c.N}
	switch c.Op {
	case api.CLess:
		return span.Less(value, point)
	case api.CMore:
		return span.Less(point, value)
	}
	return span.Lies(value, api.Span{Lo: c.N, Hi: c.M})
}

// Names returns the names of the signals that a condition mentions.
func Names(c api.Cond) []string {
	if !ValidCond(c) {
		return nil
	}
	names := map[string]bool{}
	collect(c, names)
	return slices.Sorted(maps.Keys(names))
}

func collect(c api.Cond, names map[string]bool) {
	if len(c.Kids) == 0 {
		names[c.Name] = true
	}
	for _, kid := range c.Kids {
		collect(kid, names)
	}
}
