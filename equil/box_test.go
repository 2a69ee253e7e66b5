package equil_test

import (
	"math"
	"math/rand"
	"slices"
	"testing"

	"shotdesk/api"
	"shotdesk/equil"
)

func TestValidBox(t *testing.T) {
	m, _ := pair()
	for _, x := range []struct {
		total int
		box   []api.Span
		want  bool
	}{
		{5, box(0, 5, 0, 5), true}, {5, box(0, 0, 5, 5), true}, {5, box(3, 4, 0, 1), true}, {0, box(0, 0, 0, 0), true},
		{math.MaxInt, box(0, math.MaxInt, 1<<62, math.MaxInt), true}, {api.MaxAmp + 1, box(0, 0, 5, api.MaxAmp+1), true},
		{5, box(-1, 5, 0, 5), false}, {5, box(0, 5, -1, -1), false}, {5, box(0, 6, 0, 5), false}, {5, box(0, 5, 6, 6), false},
		{5, box(3, 2, 0, 5), false}, {5, box(0, 5, 5, 4), false}, {0, box(0, 0, 0, 1), false}, {-1, box(0, 0, 0, 0), false},
		{math.MinInt, box(0, 0, 0, 0), false}, {5, box(math.MinInt, 5, 0, 5), false}, {5, box(0, math.MaxInt, 0, 5), false},
		{5, nil, false}, {5, box(0, 5), false}, {5, box(0, 5, 0, 5, 0, 5), false},
	} {
		if got := equil.ValidBox(m, x.total, x.box); got != x.want {
			t.Errorf("ValidBox for %d of %v = %v", x.total, x.box, got)
		}
	}
	m.Name = ""
	same(t, "ValidBox of a broken machine", equil.ValidBox(m, 5, box(0, 5, 0, 5)), false)
	same(t, "ValidBox of no machine", equil.ValidBox(api.Machine{}, 5, nil), false)
}

func TestFluxes(t *testing.T) {
	m, c := pair()
	x := box(3, 5, 1, 2)
	places := []api.Point{{}, {R: 4}, {R: -4}, {R: 8}, {}, {R: 100, Z: -100}}
	far, farther := influence(places[5], api.Point{}), influence(places[5], api.Point{R: 4})
	gives(t, "Fluxes", box(800000, 1350000, 400000, 750000, 164705, 279410, 94115, 173525, 800000, 1350000, 3*far+farther, 5*far+2*farther)...)(
		equil.Fluxes(m, c, x, places))
	c.Coils[0], c.Shells[0] = -10, 3
	gives(t, "Fluxes beside known flux", sp(-20*125000+3*14705+800000, -20*125000+3*14705+1350000))(equil.Fluxes(m, c, x, places[:1]))
	gives(t, "Fluxes of points", sp(-20*125000+3*14705+800000, -20*125000+3*14705+800000))(equil.Fluxes(m, c, dots(3, 1), places[:1]))
	gives[api.Span](t, "Fluxes at no place")(equil.Fluxes(m, c, x, nil))
	l, e := equil.Fluxes(m, c, x, make([]api.Point, 1000))
	if len(l) != 1000 || l[999] != l[0] || e != api.OK {
		t.Errorf("Fluxes at 1,000 places = %d, %d", len(l), e)
	}
	fails[api.Span](t, "Fluxes at 1,001 places", api.ErrLimit)(equil.Fluxes(m, c, x, make([]api.Point, 1001)))
	for _, n := range append([]int{-101, 101}, wild...) {
		for _, p := range []api.Point{{R: n}, {Z: n}, {R: n, Z: n}} {
			fails[api.Span](t, "Fluxes too far away", api.ErrRange)(equil.Fluxes(m, c, x, []api.Point{{}, p}))
			fails[api.Span](t, "Fluxes too far away", api.ErrRange)(equil.Fluxes(m, c, x, []api.Point{p, {}}))
			is0(t, "Known too far away", api.ErrRange)(equil.Known(m, c, p))
		}
	}
}

// is0 returns a check for an error that comes with 0.
func is0(t *testing.T, call string, want api.Errno) func(int, api.Errno) {
	t.Helper()
	return func(got int, e api.Errno) {
		t.Helper()
		if e != want || got != 0 {
			t.Errorf("%s = %d, %d, not %d", call, got, e, want)
		}
	}
}

func TestBoundary(t *testing.T) {
	m, c := pair()
	is(t, "Boundary", sp(164705, 279410))(equil.Boundary(m, c, box(3, 5, 1, 2)))
	is(t, "Boundary", sp(0, 0))(equil.Boundary(m, c, box(0, 0, 0, 0)))
	// the ends are those of different limiter points
	is(t, "Boundary", sp(3*50000+14705, 14705*3+50000*9))(equil.Boundary(m, c, box(3, 3, 1, 9)))
	c.Shells[0] = -20
	is(t, "Boundary below 0", sp(-20*3846+14705+50000, -20*3846+2*14705+3*50000))(equil.Boundary(m, c, box(1, 2, 1, 3)))
	m, c = single(8)
	is(t, "Boundary of one cell", sp(8*50000+2*200000, 8*50000+3*200000))(equil.Boundary(m, c, box(2, 3)))
}

func TestImageBox(t *testing.T) {
	m, c := pair()
	// the excesses are 520,590..1,185,295 and 120,590..585,295
	gives(t, "ImageBox", sp(2, 6), sp(0, 4))(equil.ImageBox(m, c, 6, box(3, 5, 1, 2)))
	gives(t, "ImageBox", sp(470745, 907657), sp(92343, 529255))(equil.ImageBox(m, c, api.MaxAmp, box(3, 5, 1, 2)))
	gives(t, "ImageBox of points", sp(7, 8), sp(2, 3))(equil.ImageBox(m, c, 10, dots(3, 1)))
	gives(t, "ImageBox of halves", sp(5, 5), sp(5, 5))(equil.ImageBox(m, c, 10, dots(3, 3)))
	// the first cell has no excess, and then perhaps one
	gives(t, "ImageBox of one cell", sp(0, 0), sp(7, 7))(equil.ImageBox(m, c, 7, dots(0, 5)))
	gives(t, "ImageBox with a cell on the rim", sp(0, 2), sp(5, 7))(equil.ImageBox(m, c, 7, box(0, 1, 5, 5)))
	fails[api.Span](t, "ImageBox of nothing", api.ErrNone)(equil.ImageBox(m, c, 6, dots(0, 0)))
	fails[api.Span](t, "ImageBox of everything", api.ErrNone)(equil.ImageBox(m, c, 6, box(0, 6, 0, 6)))
	m, c = single(0)
	// the flux 1,000,000..1,250,000 beside 800,000..1,000,000 is none for sure, and 1,250,000..1,500,000 beside 1,000,000..1,200,000 is some
	fails[api.Span](t, "ImageBox of one cell", api.ErrNone)(equil.ImageBox(m, c, 5, box(4, 5)))
	gives(t, "ImageBox of one cell", sp(6, 6))(equil.ImageBox(m, c, 6, box(5, 6)))
}

func TestJudge(t *testing.T) {
	m, c := pair()
	for _, x := range []struct {
		total int
		box   []api.Span
		want  bool
	}{
		{6, box(3, 5, 1, 2), false}, // the image is 2..6 and 0..4
		{10, box(5, 5, 5, 5), true}, {10, box(10, 10, 0, 0), true}, {10, box(0, 0, 10, 10), true},
		{10, box(8, 8, 2, 2), false}, {10, box(3, 3, 3, 3), false},
		{10, box(0, 10, 0, 10), false},     // no image
		{10, box(5, 5, 5, 11), false},      // not valid
		{0, box(0, 0, 0, 0), false},        // wrong total
		{10, box(5, 5, 5, 5, 5, 5), false}, // too many spans
		{api.MaxAmp, dots(api.MaxAmp/2, api.MaxAmp/2), true}, {api.MaxAmp + 2, dots(api.MaxAmp/2+1, api.MaxAmp/2+1), false},
	} {
		if got := equil.Judge(m, c, x.total, x.box); got != x.want {
			t.Errorf("Judge for %d of %v = %v", x.total, x.box, got)
		}
	}
	m, c = single(0)
	same(t, "Judge of one cell", equil.Judge(m, c, 6, box(5, 6)), true)
	same(t, "Judge of one cell", equil.Judge(m, c, 7, box(5, 6)), false)
	same(t, "Judge of one cell", equil.Judge(m, c, 7, box(6, 6)), false)
	same(t, "Judge of one cell", equil.Judge(m, c, 5, box(4, 5)), false)
	c.Shells[0] = api.MaxAmp + 1
	same(t, "Judge with broken currents", equil.Judge(m, c, 6, box(5, 6)), false)
	m.Name = ""
	same(t, "Judge of a broken machine", equil.Judge(m, c, 6, box(5, 6)), false)
}

func TestSides(t *testing.T) {
	m, c := single(0)
	gives(t, "Sides", api.Maybe)(equil.Sides(m, c, box(2, 3)))
	gives(t, "Sides with the flux from the boundary flux on", api.Maybe)(equil.Sides(m, c, box(4, 5)))
	gives(t, "Sides", api.Yes)(equil.Sides(m, c, box(5, 6)))
	gives(t, "Sides of a point", api.Yes)(equil.Sides(m, c, box(1, 1)))
	gives(t, "Sides with the boundary flux", api.No)(equil.Sides(m, c, box(0, 0)))
	c.Shells[0] = 8
	// the cell has 775,856 with 2 and 1,025,856 with 3, the limiter point 800,000 and 1,000,000
	gives(t, "Sides", api.No)(equil.Sides(m, c, box(2, 2)))
	gives(t, "Sides", api.Maybe)(equil.Sides(m, c, box(2, 3)))
	gives(t, "Sides", api.Yes)(equil.Sides(m, c, box(3, 3)))
	m, c = pair()
	gives(t, "Sides", api.Yes, api.Yes)(equil.Sides(m, c, box(3, 5, 1, 2)))
	gives(t, "Sides", api.No, api.Yes)(equil.Sides(m, c, dots(0, 5)))
	gives(t, "Sides", api.Maybe, api.Yes)(equil.Sides(m, c, box(0, 0, 5, 7)))
	gives(t, "Sides", api.Maybe, api.Yes)(equil.Sides(m, c, box(0, 1, 5, 5)))
	gives(t, "Sides with a sum above MaxAmp", api.Yes, api.Yes)(equil.Sides(m, c, dots(api.MaxAmp, api.MaxAmp)))
}

func TestTouching(t *testing.T) {
	touches := func(m api.Machine, c api.Currents, x []api.Span, sure, possible []int) {
		t.Helper()
		s, p, e := equil.Touching(m, c, x)
		if !slices.Equal(s, sure) || !slices.Equal(p, possible) || e != api.OK {
			t.Errorf("Touching of %v = %v, %v, %d, not %v, %v", x, s, p, e, sure, possible)
		}
	}
	m, c := pair()
	touches(m, c, box(3, 5, 1, 2), nil, []int{0, 1})
	touches(m, c, dots(5, 1), []int{0}, []int{0})
	touches(m, c, dots(1, 5), []int{1}, []int{1})
	touches(m, c, dots(2, 2), []int{0, 1}, []int{0, 1})
	// the first point's least flux just is the second one's greatest
	m, c = single(8)
	touches(m, c, box(2, 3), []int{0}, []int{0, 1})
	c.Shells[0] = 7
	touches(m, c, box(2, 3), nil, []int{0, 1})
	c.Shells[0] = 9
	touches(m, c, box(2, 3), []int{0}, []int{0})
	c.Shells[0] = -8
	touches(m, c, box(2, 3), []int{1}, []int{0, 1})
	c.Shells[0] = -9
	touches(m, c, box(2, 3), []int{1}, []int{1})
	// the only one touches, whatever it has
	m.Limits = m.Limits[:1]
	touches(m, c, box(0, 0), []int{0}, []int{0})
	touches(m, c, box(0, api.MaxAmp), []int{0}, []int{0})
}

// sides returns the chapter's words for the sides of the cells and for the limiter points that touch.
func sides(x model, b []api.Span) (sides []api.Truth, sure, possible []int) {
	edge := x.boundary(b)
	for _, f := range x.fluxes(b, x.cells()) {
		side := api.Maybe
		if f.Lo > edge.Hi {
			side = api.Yes
		} else if f.Hi <= edge.Lo {
			side = api.No
		}
		sides = append(sides, side)
	}
	limits := x.fluxes(b, x.m.Limits)
	for i, f := range limits {
		others := slices.Delete(slices.Clone(limits), i, i+1)
		if !slices.ContainsFunc(others, func(o api.Span) bool { return f.Lo < o.Hi }) {
			sure = append(sure, i)
		}
		if f.Hi >= edge.Lo {
			possible = append(possible, i)
		}
	}
	return sides, sure, possible
}

func TestBoxesOfSome(t *testing.T) {
	r := rand.New(rand.NewSource(4))
	seen := map[string]int{}
	for range 3000 {
		m, c, total := some(r, 4, api.MaxAmp)
		x := model{m, c, total}
		b := someBox(r, someNumbers(r, len(c.Plasma), total), total, total>>r.Intn(12))
		checkBox(t, x, b)
		for _, side := range first(sides(x, b)) {
			seen["side "+string('0'+rune(side))]++
		}
		if x.proved(b) {
			seen["proved"]++
		}
	}
	enough(t, seen, 50, "side 0", "side 1", "side 2", "proved")
}

func first(sides []api.Truth, _, _ []int) []api.Truth { return sides }

// checkBox holds what is told of a box against the model.
func checkBox(t *testing.T, x model, b []api.Span) {
	t.Helper()
	places := append(x.cells(), x.m.Limits...)
	gives(t, "Fluxes", x.fluxes(b, places)...)(equil.Fluxes(x.m, x.c, b, places))
	is(t, "Boundary", x.boundary(b))(equil.Boundary(x.m, x.c, b))
	if image, ok := x.image(b); ok {
		gives(t, "ImageBox", image...)(equil.ImageBox(x.m, x.c, x.total, b))
	} else {
		fails[api.Span](t, "ImageBox", api.ErrNone)(equil.ImageBox(x.m, x.c, x.total, b))
	}
	same(t, "Judge", equil.Judge(x.m, x.c, x.total, b), x.proved(b))
	truths, sure, possible := sides(x, b)
	gives(t, "Sides", truths...)(equil.Sides(x.m, x.c, b))
	s, p, e := equil.Touching(x.m, x.c, b)
	if !slices.Equal(s, sure) || !slices.Equal(p, possible) || e != api.OK {
		t.Errorf("Touching = %v, %v, %d, not %v, %v", s, p, e, sure, possible)
	}
}

// the greatest machine: all numbers stay within an int
func TestGreatestBoxes(t *testing.T) {
	for _, n := range []int{api.MaxAmp, -api.MaxAmp} {
		m, _ := great()
		x := model{m, full(m, n), api.MaxAmp}
		var boxes [3][]api.Span
		for i := range 64 {
			boxes[0] = append(boxes[0], sp(0, api.MaxAmp))
			boxes[1] = append(boxes[1], sp(api.MaxAmp, api.MaxAmp))
			boxes[2] = append(boxes[2], sp(i, api.MaxAmp/64+i))
		}
		for _, b := range boxes {
			checkBox(t, x, b)
		}
	}
}
