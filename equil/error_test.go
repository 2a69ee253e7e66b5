package equil_test

import (
	"math"
	"reflect"
	"strings"
	"testing"

	"shotdesk/api"
	"shotdesk/equil"
)

// args are arguments for all functions.
type args struct {
	m       api.Machine
	c       api.Currents
	total   int
	p       api.Point
	j       []int
	x, y    []api.Span
	l       []api.Point
	n, cell int
}

// A function takes some of the arguments, by the names of their fields, and gives its results.
type function struct {
	takes string
	call  func(a args) ([]any, api.Errno)
}

func one[T any](result T, e api.Errno) ([]any, api.Errno) { return []any{result}, e }

func two[T, U any](result T, other U, e api.Errno) ([]any, api.Errno) {
	return []any{result, other}, e
}

// functions are those with an error code.
func functions() map[string]function {
	return map[string]function{
		"Known":     {"m c p", func(a args) ([]any, api.Errno) { return one(equil.Known(a.m, a.c, a.p)) }},
		"Image":     {"m c total j", func(a args) ([]any, api.Errno) { return one(equil.Image(a.m, a.c, a.total, a.j)) }},
		"Round":     {"m c total j", func(a args) ([]any, api.Errno) { return one(equil.Round(a.m, a.c, a.total, a.j)) }},
		"Iterate":   {"m c total j n", func(a args) ([]any, api.Errno) { return two(equil.Iterate(a.m, a.c, a.total, a.j, a.n)) }},
		"Fluxes":    {"m c x l", func(a args) ([]any, api.Errno) { return one(equil.Fluxes(a.m, a.c, a.x, a.l)) }},
		"Boundary":  {"m c x", func(a args) ([]any, api.Errno) { return one(equil.Boundary(a.m, a.c, a.x)) }},
		"ImageBox":  {"m c total x", func(a args) ([]any, api.Errno) { return one(equil.ImageBox(a.m, a.c, a.total, a.x)) }},
		"Find":      {"m c total", func(a args) ([]any, api.Errno) { return one(equil.Find(a.m, a.c, a.total)) }},
		"Narrow":    {"m c total x n", func(a args) ([]any, api.Errno) { return one(equil.Narrow(a.m, a.c, a.total, a.x, a.n)) }},
		"Misses":    {"m c total x", func(a args) ([]any, api.Errno) { return one(equil.Misses(a.m, a.c, a.total, a.x)) }},
		"Meet":      {"m total x y", func(a args) ([]any, api.Errno) { return one(equil.Meet(a.m, a.total, a.x, a.y)) }},
		"Split":     {"m total x cell", func(a args) ([]any, api.Errno) { return two(equil.Split(a.m, a.total, a.x, a.cell)) }},
		"Sides":     {"m c x", func(a args) ([]any, api.Errno) { return one(equil.Sides(a.m, a.c, a.x)) }},
		"Touching":  {"m c x", func(a args) ([]any, api.Errno) { return two(equil.Touching(a.m, a.c, a.x)) }},
		"MirrorBox": {"m x", func(a args) ([]any, api.Errno) { return one(equil.MirrorBox(a.m, a.x)) }},
	}
}

func (f function) has(names string) bool {
	for _, name := range strings.Fields(names) {
		if !strings.Contains(" "+f.takes+" ", " "+name+" ") {
			return false
		}
	}
	return true
}

// right returns arguments without an error for any function. The shell drives the plasma into the first cell.
func right() args {
	m, c := pair()
	c.Shells[0] = 100
	return args{
		m: m, c: c, total: 100, p: api.Point{R: 3}, j: []int{80, 20}, x: box(90, 100, 0, 10), y: box(80, 95, 5, 30),
		l: []api.Point{{}, {R: 3}}, n: 5, cell: 1,
	}
}

// A fault makes arguments wrong for the functions that take all that it is of.
type fault struct {
	of, what string
	make     func(a *args)
	e        api.Errno
}

// faults are those that no other argument makes more or less of.
func faults() []fault {
	l := []fault{
		{"m", "no machine", func(a *args) { a.m = api.Machine{} }, api.ErrInvalid},
		{"m", "a machine without a name", func(a *args) { a.m.Name = "" }, api.ErrInvalid},
		{"m", "a machine without a limiter point", func(a *args) { a.m.Limits = nil }, api.ErrInvalid},
		{"m", "a machine with a wrong coil", func(a *args) { a.m.Coils = []api.Coil{{}} }, api.ErrInvalid},
		{"m", "a machine with a wrong sensor", func(a *args) { a.m.Sensors = []api.Sensor{{Name: "s"}} }, api.ErrInvalid},
		{"m", "a grid without cells", func(a *args) { a.m.Grid.NR = 0 }, api.ErrInvalid},
		{"c", "no currents", func(a *args) { a.c = api.Currents{} }, api.ErrInvalid},
		{"c", "no coil", func(a *args) { a.c.Coils = nil }, api.ErrInvalid},
		{"c", "a shell too many", func(a *args) { a.c.Shells = []int{0, 0} }, api.ErrInvalid},
		{"c", "a coil with too much", func(a *args) { a.c.Coils = []int{api.MaxAmp + 1} }, api.ErrInvalid},
		{"c", "a shell with too much", func(a *args) { a.c.Shells = []int{-api.MaxAmp - 1} }, api.ErrInvalid},
		{"c", "no plasma", func(a *args) { a.c.Plasma = nil }, api.ErrInvalid},
		{"c", "a plasma below 0", func(a *args) { a.c.Plasma = []int{5, -1} }, api.ErrInvalid},
		{"c", "a plasma with too much", func(a *args) { a.c.Plasma = []int{api.MaxAmp, 1} }, api.ErrInvalid},
		{"j", "no numbers", func(a *args) { a.j = nil }, api.ErrInvalid},
		{"j", "a number too few", func(a *args) { a.j = a.j[:1] }, api.ErrInvalid},
		{"j", "a number too many", func(a *args) { a.j = []int{80, 20, 0} }, api.ErrInvalid},
		{"j", "a number below 0", func(a *args) { a.j = []int{80, -1} }, api.ErrInvalid},
		{"j", "a number too large", func(a *args) { a.j = []int{api.MaxAmp + 1, 20} }, api.ErrInvalid},
		{"x", "no box", func(a *args) { a.x = nil }, api.ErrInvalid},
		{"x", "a box too short", func(a *args) { a.x = a.x[:1] }, api.ErrInvalid},
		{"x", "a box too long", func(a *args) { a.x = box(90, 100, 0, 10, 0, 0) }, api.ErrInvalid},
		{"x", "a box below 0", func(a *args) { a.x = box(90, 100, -1, 10) }, api.ErrInvalid},
		{"x", "a span the wrong way", func(a *args) { a.x = box(100, 90, 0, 10) }, api.ErrInvalid},
		{"x", "a box above MaxAmp", func(a *args) { a.x = box(90, 100, 0, max(a.total, api.MaxAmp)+1) }, api.ErrInvalid},
		{"total x", "a box above the total", func(a *args) { a.x = box(90, a.total+1, 0, 10) }, api.ErrInvalid},
		{"x y", "a second box too short", func(a *args) { a.y = a.y[:1] }, api.ErrInvalid},
		{"x y", "a second box above the total", func(a *args) { a.y = box(80, 95, 5, a.total+1) }, api.ErrInvalid},
		{"l", "too many places", func(a *args) { a.l = make([]api.Point, 1001) }, api.ErrLimit},
		{"p", "a place too far away", func(a *args) { a.p.R = 101 }, api.ErrRange},
		{"p", "a place too far away", func(a *args) { a.p.Z = -101 }, api.ErrRange},
		{"l", "places too far away", func(a *args) { a.l = append(a.l[:1:1], api.Point{Z: 101}) }, api.ErrRange},
		{"n", "a time too many", func(a *args) { a.n = 1001 }, api.ErrRange},
		{"n", "times below 0", func(a *args) { a.n = -1 }, api.ErrRange},
		{"cell", "a cell too many", func(a *args) { a.cell = 2 }, api.ErrRange},
		{"cell", "a cell below 0", func(a *args) { a.cell = -1 }, api.ErrRange},
		{"total", "a total too large", func(a *args) { a.total = api.MaxAmp + 1 }, api.ErrRange},
		{"j", "numbers without an image", func(a *args) { a.j = []int{0, 0} }, api.ErrNone},
		{"c total x", "a box without an image", func(a *args) { a.x = box(0, 100, 0, 100) }, api.ErrNone},
		{"x y", "boxes with nothing in common", func(a *args) { a.y = box(80, 95, 11, 30) }, api.ErrNone},
	}
	for _, n := range wild {
		l = append(l,
			fault{"x", "a wild box", func(a *args) { a.x = box(90, n, 0, 10) }, api.ErrInvalid},
			fault{"j", "a wild number", func(a *args) { a.j = []int{80, n} }, api.ErrInvalid},
			fault{"c", "a wild current", func(a *args) { a.c.Coils = []int{n} }, api.ErrInvalid},
			fault{"p", "a wild place", func(a *args) { a.p.R = n }, api.ErrRange},
			fault{"n", "wild times", func(a *args) { a.n = n }, api.ErrRange},
			fault{"cell", "a wild cell", func(a *args) { a.cell = n }, api.ErrRange})
	}
	return l
}

func TestErrors(t *testing.T) {
	for name, f := range functions() {
		if _, e := f.call(right()); e != api.OK {
			t.Errorf("%s = %d", name, e)
		}
		for _, x := range faults() {
			a, want := right(), api.OK
			x.make(&a)
			if f.has(x.of) {
				want = x.e
			}
			checkError(t, name+" of "+x.what, f, a, want)
		}
	}
}

// checkError holds the error of a call against the right one, with which every other result is a zero value.
func checkError(t *testing.T, call string, f function, a args, want api.Errno) {
	t.Helper()
	results, e := f.call(a)
	if e != want {
		t.Errorf("%s: %d, not %d", call, e, want)
	}
	for _, result := range results {
		v := reflect.ValueOf(result)
		if empty := v.Kind() == reflect.Slice && v.Len() == 0; e != api.OK && !empty && !v.IsZero() {
			t.Errorf("%s: %d comes with %v", call, e, result)
		}
	}
}

// R2: of two errors, the first one is told; their numbers are in the chapter's order
func TestErrorsInOrder(t *testing.T) {
	for name, f := range functions() {
		for _, first := range faults() {
			for _, second := range faults() {
				if first.e >= second.e || !f.has(first.of) || !f.has(second.of) {
					continue
				}
				a := right()
				second.make(&a)
				first.make(&a)
				checkError(t, name+" of "+first.what+" and "+second.what, f, a, first.e)
			}
		}
	}
}

// a total below 1 is not in its range, and no box but one of zeros is valid for it
func TestErrorsOfTotals(t *testing.T) {
	for name, f := range functions() {
		for _, total := range append([]int{0, -1}, wild[:3]...) {
			a := right()
			a.total = total
			want := api.OK
			if f.has("total x") {
				want = api.ErrInvalid
			} else if f.has("total") {
				want = api.ErrRange
			}
			checkError(t, name+" of a total below 1", f, a, want)
		}
		for _, total := range []int{api.MaxAmp + 1, 1 << 62, math.MaxInt} {
			a, want := right(), api.OK
			a.total = total
			if f.has("total") {
				want = api.ErrRange
			}
			checkError(t, name+" of a total too large", f, a, want)
		}
		if a := right(); f.has("total x") {
			a.total, a.x, a.y = 0, dots(0, 0), dots(0, 0)
			checkError(t, name+" of the total 0 with a box of zeros", f, a, api.ErrRange)
			for _, n := range []int{api.MaxAmp + 1, 1 << 62, math.MaxInt} {
				a.total, a.x, a.y = n, dots(n, 0), dots(n, 0)
				checkError(t, name+" of a total too large with a box for it", f, a, api.ErrRange)
			}
		}
	}
}
