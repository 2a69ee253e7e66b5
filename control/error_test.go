package control_test

import (
	"math"
	"reflect"
	"slices"
	"strings"
	"testing"

	"shotdesk/api"
	"shotdesk/control"
)

// args are arguments for all functions.
type args struct {
	m     api.Machine
	setup api.Setup
	b     api.Safety
	c     api.Currents
	s     api.State
	list  []int // a wish, or changes
	x     []api.Span
	g     api.Goal
	shape api.Shape
	y     api.Memory
	n     int
	most  int
	total int
}

// A function takes some of the arguments, by the names of their fields, and gives its results; one that also takes "step" makes a tick.
type function struct {
	takes string
	call  func(a args) ([]any, api.Errno)
}

func one[T any](result T, e api.Errno) ([]any, api.Errno) { return []any{result}, e }

// functions are those with an error code.
func functions() map[string]function {
	return map[string]function{
		"Errors": {"g shape", func(a args) ([]any, api.Errno) {
			r, z, e := control.Errors(a.g, a.shape)
			return []any{r, z}, e
		}},
		"Remember": {"most y g shape", func(a args) ([]any, api.Errno) { return one(control.Remember(a.most, a.y, a.g, a.shape)) }},
		"Wish":     {"m setup y g shape", func(a args) ([]any, api.Errno) { return one(control.Wish(a.m, a.setup, a.y, a.g, a.shape)) }},
		"Part":     {"list n", func(a args) ([]any, api.Errno) { return one(control.Part(a.list, a.n)) }},
		"Fall":     {"m s", func(a args) ([]any, api.Errno) { return one(control.Fall(a.m, a.s)) }},
		"Outlook":  {"m s list step", func(a args) ([]any, api.Errno) { return one(control.Outlook(a.m, a.s, a.list)) }},
		"Forces":   {"m c x", func(a args) ([]any, api.Errno) { return one(control.Forces(a.m, a.c, a.x)) }},
		"Safe":     {"m s list x b step", func(a args) ([]any, api.Errno) { return one(control.Safe(a.m, a.s, a.list, a.x, a.b)) }},
		"Let":      {"m s list x b step", func(a args) ([]any, api.Errno) { return one(control.Let(a.m, a.s, a.list, a.x, a.b)) }},
		"Room":     {"m s", func(a args) ([]any, api.Errno) { return one(control.Room(a.m, a.s)) }},
		"Cut":      {"m s list", func(a args) ([]any, api.Errno) { return one(control.Cut(a.m, a.s, a.list)) }},
		"Survives": {"m s b step", func(a args) ([]any, api.Errno) { return one(control.Survives(a.m, a.s, a.b)) }},
		"Whole":    {"m total", func(a args) ([]any, api.Errno) { return one(control.Whole(a.m, a.total)) }},
		"Fixed":    {"m c", func(a args) ([]any, api.Errno) { return one(control.Fixed(a.m, a.c)) }},
	}
}

func (f function) has(names string) bool {
	for _, name := range strings.Fields(names) {
		if !slices.Contains(strings.Fields(f.takes), name) {
			return false
		}
	}
	return true
}

// right returns arguments without an error for any function.
func right() args {
	m, c := pair()
	c.Coils, c.Shells, c.Plasma = []int{1000, -50}, []int{4}, []int{15, 3}
	return args{
		m: m, c: c, x: box(10, 20, 0, 5), list: []int{800, -70}, n: 3, most: 500, total: 18,
		s:     api.State{Tick: 7, C: api.Currents{Coils: []int{1000, -50}, Shells: []int{4}, Plasma: []int{15, 3}}, Heat: []int{5, 6}, Tripped: []bool{false, false}},
		setup: api.Setup{Gains: []api.Gain{{R: 1, Z: 2, SumR: 3, SumZ: 4}, {R: 5, Z: 6, SumR: 7, SumZ: 8}}, Most: 500},
		b:     api.Safety{Shell: 5000, Force: 5000},
		g:     api.Goal{R: 3000, Z: 100}, y: api.Memory{SumR: 20, SumZ: -30},
		shape: api.Shape{Radius: sp(2500, 2800), Height: sp(200, 220), Area: sp(1, 2), Top: sp(4, 4), Outer: sp(3, 3), Inner: sp(3, 3)},
	}
}

// A fault makes arguments wrong for the functions that take all that it is of.
type fault struct {
	of, what string
	make     func(a *args)
	e        api.Errno
}

func faults() []fault {
	return slices.Concat(machineFaults(), stateFaults(), wildFaults(), []fault{
		{"setup", "no gains", func(a *args) { a.setup.Gains = nil }, api.ErrInvalid},
		{"setup", "a gain too few", func(a *args) { a.setup.Gains = a.setup.Gains[:1] }, api.ErrInvalid},
		{"setup", "a gain too many", func(a *args) { a.setup.Gains = append(a.setup.Gains, api.Gain{}) }, api.ErrInvalid},
		{"setup", "a gain too large", func(a *args) { a.setup.Gains[1].SumZ = 1000001 }, api.ErrInvalid},
		{"setup", "a Most too large", func(a *args) { a.setup.Most = 1000000001 }, api.ErrInvalid},
		{"b", "a safety below 0", func(a *args) { a.b.Shell = -1 }, api.ErrInvalid},
		{"b", "a force below 0", func(a *args) { a.b.Force = -1 }, api.ErrInvalid},
		{"b", "a safety above MaxAmp", func(a *args) { a.b.Shell = api.MaxAmp + 1 }, api.ErrInvalid},
		{"m list", "no changes", func(a *args) { a.list = nil }, api.ErrInvalid},
		{"m list", "a change too few", func(a *args) { a.list = a.list[:1] }, api.ErrInvalid},
		{"m list", "a change too many", func(a *args) { a.list = append(a.list, 0) }, api.ErrInvalid},
		{"x", "no box", func(a *args) { a.x = nil }, api.ErrInvalid},
		{"x", "a box too short", func(a *args) { a.x = a.x[:1] }, api.ErrInvalid},
		{"x", "a box too long", func(a *args) { a.x = append(a.x, sp(0, 0)) }, api.ErrInvalid},
		{"x", "a box below 0", func(a *args) { a.x[1].Lo = -1 }, api.ErrInvalid},
		{"x", "a span the wrong way", func(a *args) { a.x[1] = sp(3, 2) }, api.ErrInvalid},
		{"x", "a box above MaxAmp", func(a *args) { a.x[0].Hi = api.MaxAmp + 1 }, api.ErrInvalid},
		{"g", "a goal too far away", func(a *args) { a.g.R = 60001 }, api.ErrInvalid},
		{"g", "a goal too far below", func(a *args) { a.g.Z = -60001 }, api.ErrInvalid},
		{"y", "a memory too large", func(a *args) { a.y.SumR = 1000000001 }, api.ErrInvalid},
		{"y", "a memory too small", func(a *args) { a.y.SumZ = -1000000001 }, api.ErrInvalid},
		{"n", "no eighths", func(a *args) { a.n = -1 }, api.ErrRange},
		{"n", "nine eighths", func(a *args) { a.n = 9 }, api.ErrRange},
		{"most", "a most below 0", func(a *args) { a.most = -1 }, api.ErrRange},
		{"most", "a most too large", func(a *args) { a.most = 1000000001 }, api.ErrRange},
		{"total", "no total", func(a *args) { a.total = 0 }, api.ErrRange},
		{"total", "a total too large", func(a *args) { a.total = api.MaxAmp + 1 }, api.ErrRange},
		{"step", "the last tick", func(a *args) { a.s.Tick = lastTick }, api.ErrRange},
		{"g shape", "a radius too far away", func(a *args) { a.shape.Radius = sp(-api.MaxValue, 0) }, api.ErrBig},
		{"g shape", "a height too far away", func(a *args) { a.shape.Height = sp(-api.MaxValue, 0) }, api.ErrBig},
	})
}

func machineFaults() []fault {
	return []fault{
		{"m", "no machine", func(a *args) { a.m = api.Machine{} }, api.ErrInvalid},
		{"m", "a machine without a name", func(a *args) { a.m.Name = "" }, api.ErrInvalid},
		{"m", "a machine without a limiter point", func(a *args) { a.m.Limits = nil }, api.ErrInvalid},
		{"m", "a machine with a wrong coil", func(a *args) { a.m.Coils[1].Turns = 0 }, api.ErrInvalid},
		{"m", "a machine with a wrong shell", func(a *args) { a.m.Shells[0].Self = 0 }, api.ErrInvalid},
		{"m", "a machine with a wrong sensor", func(a *args) { a.m.Sensors = []api.Sensor{{Name: "s"}} }, api.ErrInvalid},
		{"m", "a grid without cells", func(a *args) { a.m.Grid.NR = 0 }, api.ErrInvalid},
		{"m", "a grid that is too large", func(a *args) { a.m.Grid.NZ = math.MaxInt }, api.ErrInvalid},
	}
}

// currentFaults are those of currents, wherever they are.
func currentFaults(of string, at func(a *args) *api.Currents) []fault {
	return []fault{
		{of, "no currents", func(a *args) { *at(a) = api.Currents{} }, api.ErrInvalid},
		{of, "a coil too few", func(a *args) { at(a).Coils = []int{0} }, api.ErrInvalid},
		{of, "a coil with too much", func(a *args) { at(a).Coils[1] = api.MaxAmp + 1 }, api.ErrInvalid},
		{of, "a shell too many", func(a *args) { at(a).Shells = []int{0, 0} }, api.ErrInvalid},
		{of, "a shell with too much", func(a *args) { at(a).Shells[0] = -api.MaxAmp - 1 }, api.ErrInvalid},
		{of, "a cell too few", func(a *args) { at(a).Plasma = []int{1} }, api.ErrInvalid},
		{of, "a cell below 0", func(a *args) { at(a).Plasma[1] = -1 }, api.ErrInvalid},
		{of, "a plasma with too much", func(a *args) { at(a).Plasma = []int{api.MaxAmp, 1} }, api.ErrInvalid},
	}
}

func stateFaults() []fault {
	return slices.Concat(
		currentFaults("c", func(a *args) *api.Currents { return &a.c }),
		currentFaults("s", func(a *args) *api.Currents { return &a.s.C }),
		[]fault{
			{"s", "no state", func(a *args) { a.s = api.State{} }, api.ErrInvalid},
			{"s", "a tick below 0", func(a *args) { a.s.Tick = -1 }, api.ErrInvalid},
			{"s", "a tick behind the last one", func(a *args) { a.s.Tick = lastTick + 1 }, api.ErrInvalid},
			{"s", "no heats", func(a *args) { a.s.Heat = nil }, api.ErrInvalid},
			{"s", "a heat below 0", func(a *args) { a.s.Heat = []int{0, -1} }, api.ErrInvalid},
			{"s", "a trip too many", func(a *args) { a.s.Tripped = make([]bool, 3) }, api.ErrInvalid},
		})
}

// spansOf are the spans of a shape.
func spansOf(s *api.Shape) []*api.Span {
	return []*api.Span{&s.Radius, &s.Height, &s.Area, &s.Top, &s.Bottom, &s.Inner, &s.Outer, &s.Lift}
}

// wildFaults are those of numbers that are in no range, and of each span of a shape.
func wildFaults() []fault {
	var l []fault
	for i := range spansOf(&api.Shape{}) {
		l = append(l,
			fault{"shape", "a shape with a wrong span", func(a *args) { *spansOf(&a.shape)[i] = sp(1, 0) }, api.ErrInvalid},
			fault{"shape", "a shape with a wide span", func(a *args) { *spansOf(&a.shape)[i] = sp(0, api.MaxValue+1) }, api.ErrInvalid})
	}
	for _, n := range wild {
		l = append(l,
			fault{"list", "a wild change", func(a *args) { a.list = []int{5, n} }, api.ErrInvalid},
			fault{"x", "a wild box", func(a *args) { a.x[1] = sp(n, n) }, api.ErrInvalid},
			fault{"b", "a wild safety", func(a *args) { a.b.Force = n }, api.ErrInvalid},
			fault{"b", "a wild shell", func(a *args) { a.b.Shell = n }, api.ErrInvalid},
			fault{"g", "a wild goal", func(a *args) { a.g.Z = n }, api.ErrInvalid},
			fault{"y", "a wild memory", func(a *args) { a.y.SumZ = n }, api.ErrInvalid},
			fault{"setup", "a wild gain", func(a *args) { a.setup.Gains[0].R = n }, api.ErrInvalid},
			fault{"s", "a wild current", func(a *args) { a.s.C.Coils[0] = n }, api.ErrInvalid},
			fault{"n", "wild eighths", func(a *args) { a.n = n }, api.ErrRange},
			fault{"most", "a wild most", func(a *args) { a.most = n }, api.ErrRange},
			fault{"total", "a wild total", func(a *args) { a.total = n }, api.ErrRange})
	}
	return l
}

func TestErrors(t *testing.T) {
	for name, f := range functions() {
		if _, e := f.call(right()); e != api.OK {
			t.Errorf("%s = %d", name, e)
		}
		for _, x := range faults() {
			a, want := right(), api.OK
			x.make(&a)
			if f.has(x.of) {
				want = x.e
			}
			checkError(t, name+" of "+x.what, f, a, want)
		}
	}
}

// checkError holds the error of a call against the right one, with which every other result is a zero value.
func checkError(t *testing.T, call string, f function, a args, want api.Errno) {
	t.Helper()
	results, e := f.call(a)
	if e != want {
		t.Errorf("%s: %d, not %d", call, e, want)
	}
	checkZero(t, call, e, results)
}

func checkZero(t *testing.T, call string, e api.Errno, results []any) {
	t.Helper()
	for _, result := range results {
		if e != api.OK && !isZero(reflect.ValueOf(result)) {
			t.Errorf("%s: %d comes with %v", call, e, result)
		}
	}
}

// isZero takes an empty list for a zero value.
func isZero(v reflect.Value) bool {
	switch v.Kind() {
	case reflect.Slice:
		return v.Len() == 0
	case reflect.Struct:
		for i := range v.NumField() {
			if !isZero(v.Field(i)) {
				return false
			}
		}
		return true
	}
	return v.IsZero()
}

// R2: of two errors, the first one is told; their numbers are in the chapter's order
func TestErrorsInOrder(t *testing.T) {
	for name, f := range functions() {
		for _, first := range faults() {
			for _, second := range faults() {
				if first.e >= second.e || !f.has(first.of) || !f.has(second.of) {
					continue
				}
				a := right()
				second.make(&a)
				first.make(&a)
				checkError(t, name+" of "+first.what+" and "+second.what, f, a, first.e)
			}
		}
	}
}

// R5: what has no error code says false
func TestWithoutAnErrorCode(t *testing.T) {
	for _, x := range faults() {
		a := right()
		x.make(&a)
		same(t, "ValidSetup of "+x.what, control.ValidSetup(a.m, a.setup), x.of != "m" && x.of != "setup")
		same(t, "ValidSafety of "+x.what, control.ValidSafety(a.b), x.of != "b")
	}
}
