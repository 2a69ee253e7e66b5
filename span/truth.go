package span

import "shotdesk/api"

// The tables have a row and a column for each of No, Yes and Maybe.
var andTable = [3][3]api.Truth{
	{api.No, api.No, api.No},
	{api.No, api.Yes, api.Maybe},
	{api.No, api.Maybe, api.Maybe},
}

var orTable = [3][3]api.Truth{
	{api.No, api.Yes, api.Maybe},
	{api.Yes, api.Yes, api.Yes},
	{api.Maybe, api.Yes, api.Maybe},
}

var notTable = [3]api.Truth{api.Yes, api.No, api.Maybe}

// known makes a truth fit the tables.
func known(x api.Truth) api.Truth {
	if x != api.No && x != api.Yes {
		return api.Maybe
	}
	return x
}

// Less tells whether a number of a is below a number of b.
func Less(a, b api.Span) api.Truth {
	switch {
	case !Valid(a) || !Valid(b):
		return api.Maybe
	case a.Hi < b.Lo:
		return api.Yes
	case a.Lo >= b.Hi:
		return api.No
	}
	return api.Maybe
}

// Lies tells whether a number of a lies in b.
func Lies(a, b api.Span) api.Truth {
	switch {
	case !Valid(a) || !Valid(b):
		return api.Maybe
	case Inside(a, b):
		return api.Yes
	case a.Hi < b.Lo || b.Hi < a.Lo:
		return api.No
	}
	return api.Maybe
}

// And is No if one truth is, otherwise Maybe if one is.
func And(l []api.Truth) api.Truth {
	return fold(l, api.Yes, func(sofar api.Truth, _ int, x api.Truth) api.Truth { return andTable[sofar][known(x)] })
}

// Or is Yes if one truth is, otherwise Maybe if one is.
func Or(l []api.Truth) api.Truth {
	return fold(l, api.No, func(sofar api.Truth, _ int, x api.Truth) api.Truth { return orTable[sofar][known(x)] })
}

// Not exchanges Yes and No.
func Not(x api.Truth) api.Truth { return notTable[known(x)] }
