package shape_test

import (
	"fmt"
	"math"
	"reflect"
	"slices"
	"strings"
	"testing"

	"shotdesk/api"
	"shotdesk/shape"
)

// args are arguments for all functions.
type args struct {
	m     api.Machine
	c     api.Currents
	total int
	x     []api.Span
	w, j  []int
	l     []api.Bound
	a, b  api.Shape
	kind  int
}

// A function takes some of the arguments, by the names of their fields, and gives its results; one that also takes "inside" asks for a cell that is surely inside.
type function struct {
	takes string
	call  func(a args) ([]any, api.Errno)
}

func one[T any](result T, e api.Errno) ([]any, api.Errno) { return []any{result}, e }

// functions are those with an error code.
func functions() map[string]function {
	return map[string]function{
		"Weighted":  {"m total x w", func(a args) ([]any, api.Errno) { return one(shape.Weighted(a.m, a.total, a.x, a.w)) }},
		"Radius":    {"m total x", func(a args) ([]any, api.Errno) { return one(shape.Radius(a.m, a.total, a.x)) }},
		"Height":    {"m total x", func(a args) ([]any, api.Errno) { return one(shape.Height(a.m, a.total, a.x)) }},
		"Lift":      {"m c total x", func(a args) ([]any, api.Errno) { return one(shape.Lift(a.m, a.c, a.total, a.x)) }},
		"Area":      {"m c x", func(a args) ([]any, api.Errno) { return one(shape.Area(a.m, a.c, a.x)) }},
		"Make":      {"m c total x inside", func(a args) ([]any, api.Errno) { return one(shape.Make(a.m, a.c, a.total, a.x)) }},
		"Clearance": {"m c x", func(a args) ([]any, api.Errno) { return one(shape.Clearance(a.m, a.c, a.x)) }},
		"Axis":      {"m c x", func(a args) ([]any, api.Errno) { return one(shape.Axis(a.m, a.c, a.x)) }},
		"Quantity":  {"a kind", func(a args) ([]any, api.Errno) { return one(shape.Quantity(a.a, a.kind)) }},
		"Kept":      {"l a", func(a args) ([]any, api.Errno) { return one(shape.Kept(a.l, a.a)) }},
		"Picture":   {"m c x", func(a args) ([]any, api.Errno) { return one(shape.Picture(a.m, a.c, a.x)) }},
		"Extent": {"m c x inside", func(a args) ([]any, api.Errno) {
			top, bottom, inner, outer, e := shape.Extent(a.m, a.c, a.x)
			return []any{top, bottom, inner, outer}, e
		}},
		"Moved": {"a b", func(a args) ([]any, api.Errno) {
			r, z, e := shape.Moved(a.a, a.b)
			return []any{r, z}, e
		}},
		"Of": {"m c j", func(a args) ([]any, api.Errno) {
			r, z, n, e := shape.Of(a.m, a.c, a.j)
			return []any{r, z, n}, e
		}},
	}
}

func (f function) has(names string) bool {
	for _, name := range strings.Fields(names) {
		if !slices.Contains(strings.Fields(f.takes), name) {
			return false
		}
	}
	return true
}

// right returns arguments without an error for any function.
func right() args {
	m, c := row()
	m, c = with(m, c, 0, 3, 2, 10)
	m, c = with(m, c, 0, -7, 0, 10)
	return args{
		m: m, c: c, total: 100, x: box(60, 70, 10, 20, 15, 30), w: []int{3, -4, 5}, j: []int{65, 15, 20},
		l: slices.Clone(sampleBounds), a: sample(), b: sample(), kind: api.BTop,
	}
}

// A fault makes arguments wrong for the functions that take all that it is of.
type fault struct {
	of, what string
	make     func(a *args)
	e        api.Errno
}

func faults() []fault {
	return append(wildFaults(), []fault{
		{"m", "no machine", func(a *args) { a.m = api.Machine{} }, api.ErrInvalid},
		{"m", "a machine without a name", func(a *args) { a.m.Name = "" }, api.ErrInvalid},
		{"m", "a machine without a limiter point", func(a *args) { a.m.Limits = nil }, api.ErrInvalid},
		{"m", "a machine with a wrong coil", func(a *args) { a.m.Coils = []api.Coil{{}} }, api.ErrInvalid},
		{"m", "a machine with a wrong sensor", func(a *args) { a.m.Sensors = []api.Sensor{{Name: "s"}} }, api.ErrInvalid},
		{"m", "a machine with too many limiter points", func(a *args) { a.m.Limits = make([]api.Point, 1001) }, api.ErrInvalid},
		{"m", "a grid without cells", func(a *args) { a.m.Grid.NR = 0 }, api.ErrInvalid},
		{"m", "a grid that is too large", func(a *args) { a.m.Grid.NZ = math.MaxInt }, api.ErrInvalid},
		{"c", "no currents", func(a *args) { a.c = api.Currents{} }, api.ErrInvalid},
		{"c", "no coil", func(a *args) { a.c.Coils = nil }, api.ErrInvalid},
		{"c", "a shell too many", func(a *args) { a.c.Shells = []int{0, 0} }, api.ErrInvalid},
		{"c", "a coil with too much", func(a *args) { a.c.Coils = []int{api.MaxAmp + 1} }, api.ErrInvalid},
		{"c", "a shell with too much", func(a *args) { a.c.Shells = []int{-api.MaxAmp - 1} }, api.ErrInvalid},
		{"c", "no plasma", func(a *args) { a.c.Plasma = nil }, api.ErrInvalid},
		{"c", "a plasma below 0", func(a *args) { a.c.Plasma = []int{5, -1, 0} }, api.ErrInvalid},
		{"c", "a plasma with too much", func(a *args) { a.c.Plasma = []int{api.MaxAmp, 1, 0} }, api.ErrInvalid},
		{"x", "no box", func(a *args) { a.x = nil }, api.ErrInvalid},
		{"x", "a box too short", func(a *args) { a.x = a.x[:2] }, api.ErrInvalid},
		{"x", "a box too long", func(a *args) { a.x = box(60, 70, 10, 20, 15, 30, 0, 0) }, api.ErrInvalid},
		{"x", "a box below 0", func(a *args) { a.x = box(60, 70, 10, 20, -1, 30) }, api.ErrInvalid},
		{"x", "a span the wrong way", func(a *args) { a.x = box(70, 60, 10, 20, 15, 30) }, api.ErrInvalid},
		{"x", "a box above MaxAmp", func(a *args) { a.x = box(60, 70, 10, 20, 15, max(a.total, api.MaxAmp)+1) }, api.ErrInvalid},
		{"total x", "a box above the total", func(a *args) { a.x = box(60, 70, 10, 20, 15, a.total+1) }, api.ErrInvalid},
		{"w", "no weights", func(a *args) { a.w = nil }, api.ErrInvalid},
		{"w", "a weight too few", func(a *args) { a.w = a.w[:2] }, api.ErrInvalid},
		{"w", "a weight too many", func(a *args) { a.w = []int{3, -4, 5, 6} }, api.ErrInvalid},
		{"j", "no numbers", func(a *args) { a.j = nil }, api.ErrInvalid},
		{"j", "a number too few", func(a *args) { a.j = a.j[:2] }, api.ErrInvalid},
		{"j", "a number too many", func(a *args) { a.j = []int{65, 15, 20, 0} }, api.ErrInvalid},
		{"j", "a number below 0", func(a *args) { a.j = []int{65, 15, -1} }, api.ErrInvalid},
		{"j", "numbers below 0 with the sum 0", func(a *args) { a.j = []int{1, 0, -1} }, api.ErrInvalid},
		{"j", "a number too large", func(a *args) { a.j = []int{api.MaxAmp + 1, 15, 20} }, api.ErrInvalid},
		{"l", "a bound too many", func(a *args) { a.l = slices.Repeat(a.l[:1], 17) }, api.ErrInvalid},
		{"l", "a bound of no kind", func(a *args) { a.l[4].Kind = 9 }, api.ErrInvalid},
		{"l", "a bound of the kind 0", func(a *args) { a.l[4].Kind = 0 }, api.ErrInvalid},
		{"l", "a bound with a wrong span", func(a *args) { a.l[4].Keep = sp(1, 0) }, api.ErrInvalid},
		{"kind", "a kind too large", func(a *args) { a.kind = 9 }, api.ErrRange},
		{"kind", "the kind 0", func(a *args) { a.kind = 0 }, api.ErrRange},
		{"w", "a weight too large", func(a *args) { a.w = []int{3, -4, 1000000001} }, api.ErrRange},
		{"w", "a weight too small", func(a *args) { a.w = []int{3, -1000000001, 5} }, api.ErrRange},
		{"total", "a total too large", func(a *args) { a.total = api.MaxAmp + 1 }, api.ErrRange},
		{"total x", "a box with too much", func(a *args) { a.x = box(60, 70, 20, 30, 21, 30) }, api.ErrNone},
		{"total x", "a box with too little", func(a *args) { a.x = box(60, 70, 10, 20, 5, 9) }, api.ErrNone},
		{"inside", "no cell inside", func(a *args) { a.c.Coils, a.m.Coils[0].R, a.m.Coils[0].Z = []int{api.MaxAmp}, 2, 0 }, api.ErrNone},
		{"j", "numbers that are 0", func(a *args) { a.j = []int{0, 0, 0} }, api.ErrNone},
		{"a b", "a radius too far away", func(a *args) { a.a.Radius, a.b.Radius = sp(1, 1), sp(-api.MaxValue, 0) }, api.ErrBig},
		{"a b", "a height too far away", func(a *args) { a.a.Height, a.b.Height = sp(-1, 1), sp(0, api.MaxValue) }, api.ErrBig},
	}...)
}

// wildFaults are those of each span of a shape, and of numbers that are in no range.
func wildFaults() []fault {
	var l []fault
	for kind := range spansOf(&api.Shape{}) {
		l = append(l,
			fault{"a", "a shape with a wrong span", func(a *args) { *spansOf(&a.a)[kind] = sp(1, 0) }, api.ErrInvalid},
			fault{"b", "a second shape with a wrong span", func(a *args) { *spansOf(&a.b)[kind] = sp(0, api.MaxValue+1) }, api.ErrInvalid})
	}
	for _, n := range wild {
		l = append(l,
			fault{"x", "a wild box", func(a *args) { a.x = box(60, 70, 10, n, 15, 30) }, api.ErrInvalid},
			fault{"j", "a wild number", func(a *args) { a.j = []int{65, n, 20} }, api.ErrInvalid},
			fault{"c", "a wild current", func(a *args) { a.c.Coils = []int{n} }, api.ErrInvalid},
			fault{"w", "a wild weight", func(a *args) { a.w = []int{n, 0, 0} }, api.ErrRange},
			fault{"kind", "a wild kind", func(a *args) { a.kind = n }, api.ErrRange})
	}
	return l
}

func TestErrors(t *testing.T) {
	for name, f := range functions() {
		if _, e := f.call(right()); e != api.OK {
			t.Errorf("%s = %d", name, e)
		}
		for _, x := range faults() {
			a, want := right(), api.OK
			x.make(&a)
			if f.has(x.of) {
				want = x.e
			}
			checkError(t, name+" of "+x.what, f, a, want)
		}
	}
}

// checkError holds the error of a call against the right one, with which every other result is a zero value.
func checkError(t *testing.T, call string, f function, a args, want api.Errno) {
	t.Helper()
	results, e := f.call(a)
	if e != want {
		t.Errorf("%s: %d, not %d", call, e, want)
	}
	checkZero(t, call, e, results)
}

func checkZero(t *testing.T, call string, e api.Errno, results []any) {
	t.Helper()
	for _, result := range results {
		v := reflect.ValueOf(result)
		if empty := v.Kind() == reflect.Slice && v.Len() == 0; e != api.OK && !empty && !v.IsZero() {
			t.Errorf("%s: %d comes with %v", call, e, result)
		}
	}
}

// R2: of two errors, the first one is told; their numbers are in the chapter's order
func TestErrorsInOrder(t *testing.T) {
	for name, f := range functions() {
		for _, first := range faults() {
			for _, second := range faults() {
				if first.e >= second.e || !f.has(first.of) || !f.has(second.of) {
					continue
				}
				a := right()
				second.make(&a)
				first.make(&a)
				checkError(t, name+" of "+first.what+" and "+second.what, f, a, first.e)
			}
		}
	}
}

// a total below 1 is not in its range, and no box but one of zeros is valid for it
func TestErrorsOfTotals(t *testing.T) {
	for name, f := range functions() {
		if !f.has("total") {
			continue
		}
		for _, total := range []int{0, -1, math.MinInt} {
			a := right()
			a.total = total
			checkError(t, fmt.Sprint(name, " of the total ", total), f, a, api.ErrInvalid)
			a.x = dots(0, 0, 0)
			want := api.ErrInvalid
			if total == 0 {
				want = api.ErrRange
			}
			checkError(t, fmt.Sprint(name, " of zeros with the total ", total), f, a, want)
		}
		for _, total := range []int{api.MaxAmp + 1, 1 << 62, math.MaxInt} {
			a := right()
			a.total = total
			checkError(t, fmt.Sprint(name, " of the total ", total), f, a, api.ErrRange)
			a.x = dots(total, 0, 0)
			checkError(t, fmt.Sprint(name, " of the total ", total, " with a box for it"), f, a, api.ErrRange)
			a.c.Shells = nil
			if f.has("c") {
				checkError(t, fmt.Sprint(name, " of the total ", total, " without currents"), f, a, api.ErrInvalid)
			}
		}
		a := right()
		a.total, a.x = api.MaxAmp, dots(api.MaxAmp, 0, 0)
		checkError(t, name+" of the greatest total", f, a, api.OK)
		a.total, a.x = 1, dots(1, 0, 0)
		a.c.Coils = []int{0}
		checkError(t, name+" of the least total", f, a, api.OK)
	}
}

// R5: what has no error code says false, or nothing
func TestWithoutAnErrorCode(t *testing.T) {
	for _, x := range faults() {
		a := right()
		x.make(&a)
		same(t, "ValidBounds of "+x.what, shape.ValidBounds(a.l), x.of != "l")
		same(t, "FormatBounds of "+x.what, shape.FormatBounds(a.l) == "", x.of == "l")
		if x.e == api.ErrInvalid {
			same(t, "ValidShape of "+x.what, shape.ValidShape(a.a), x.of != "a")
		}
	}
}
