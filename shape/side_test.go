package shape_test

import (
	"math/rand"
	"slices"
	"strings"
	"testing"

	"shotdesk/api"
	"shotdesk/shape"
)

// extents returns a check for the four spans of Extent.
func extents(t *testing.T, call string, want [4]api.Span) func(top, bottom, inner, outer api.Span, e api.Errno) {
	t.Helper()
	return func(top, bottom, inner, outer api.Span, e api.Errno) {
		t.Helper()
		if got := [4]api.Span{top, bottom, inner, outer}; got != want || e != api.OK {
			t.Errorf("Extent of %s = %v, %d, not %v", call, got, e, want)
		}
	}
}

// noExtent returns a check for an error of Extent that comes alone.
func noExtent(t *testing.T, call string, want api.Errno) func(top, bottom, inner, outer api.Span, e api.Errno) {
	t.Helper()
	return func(top, bottom, inner, outer api.Span, e api.Errno) {
		t.Helper()
		if got := [4]api.Span{top, bottom, inner, outer}; got != [4]api.Span{} || e != want {
			t.Errorf("Extent of %s = %v, %d, not %d", call, got, e, want)
		}
	}
}

// 6.2, 6.6
func TestDrawings(t *testing.T) {
	// the cells are at R = 10, 20, 30 and Z = -12, -2, 8
	m, c := sketch(3, 3)
	for _, a := range []struct {
		picture string
		area    api.Span
		extent  [4]api.Span // top, bottom, inner, outer
	}{
		{"...\n.#.\n...\n", sp(1, 1), [4]api.Span{sp(-2, -2), sp(-2, -2), sp(20, 20), sp(20, 20)}},
		{"...\n.#.\n?..\n", sp(1, 2), [4]api.Span{sp(-2, -2), sp(-12, -2), sp(10, 20), sp(20, 20)}},
		{"..?\n.#.\n...\n", sp(1, 2), [4]api.Span{sp(-2, 8), sp(-2, -2), sp(20, 20), sp(20, 30)}},
		{"?..\n?#.\n...\n", sp(1, 3), [4]api.Span{sp(-2, 8), sp(-2, -2), sp(10, 20), sp(20, 20)}},
		{"#..\n.?.\n..#\n", sp(2, 3), [4]api.Span{sp(8, 8), sp(-12, -12), sp(10, 10), sp(30, 30)}},
		{"..?\n...\n#..\n", sp(1, 2), [4]api.Span{sp(-12, 8), sp(-12, -12), sp(10, 10), sp(10, 30)}},
		{"#..\n...\n..?\n", sp(1, 2), [4]api.Span{sp(8, 8), sp(-12, 8), sp(10, 10), sp(10, 30)}},
		{"?##\n...\n...\n", sp(2, 3), [4]api.Span{sp(8, 8), sp(8, 8), sp(10, 20), sp(30, 30)}},
		{"???\n?#?\n???\n", sp(1, 9), [4]api.Span{sp(-2, 8), sp(-12, -2), sp(10, 20), sp(20, 30)}},
		{"###\n###\n###\n", sp(9, 9), [4]api.Span{sp(8, 8), sp(-12, -12), sp(10, 10), sp(30, 30)}},
	} {
		x := drawn(a.picture)
		is(t, "Picture", a.picture)(shape.Picture(m, c, x))
		is(t, "Area of "+a.picture, a.area)(shape.Area(m, c, x))
		extents(t, a.picture, a.extent)(shape.Extent(m, c, x))
	}
	for _, picture := range []string{"...\n...\n...\n", "..?\n???\n...\n", "???\n???\n???\n"} {
		x, rim := drawn(picture), strings.Count(picture, "?")
		is(t, "Picture", picture)(shape.Picture(m, c, x))
		is(t, "Area of "+picture, sp(0, rim))(shape.Area(m, c, x))
		noExtent(t, picture, api.ErrNone)(shape.Extent(m, c, x))
		none[api.Shape](t, "Make of "+picture, api.ErrNone)(shape.Make(m, c, 9, x))
	}
}

// pictures returns all pictures of so many cells.
func pictures(cells int) []string {
	if cells == 0 {
		return []string{""}
	}
	var list []string
	for _, rest := range pictures(cells - 1) {
		list = append(list, rest+"#", rest+".", rest+"?")
	}
	return list
}

// 6.2, 6.6: of all pictures of two rows
func TestAllPictures(t *testing.T) {
	m, c := sketch(3, 2)
	for _, signs := range pictures(6) {
		picture := signs[:3] + "\n" + signs[3:] + "\n"
		x := drawn(picture)
		is(t, "Picture", picture)(shape.Picture(m, c, x))
		var sure, rim []api.Point
		for i, sign := range signs {
			p := api.Point{R: 10 + i%3*10, Z: -2 - i/3*10}
			switch sign {
			case '#':
				sure = append(sure, p)
			case '?':
				rim = append(rim, p)
			}
		}
		is(t, "Area of "+picture, sp(len(sure), len(sure)+len(rim)))(shape.Area(m, c, x))
		if len(sure) == 0 {
			noExtent(t, picture, api.ErrNone)(shape.Extent(m, c, x))
			continue
		}
		extents(t, picture, extent(sure, rim))(shape.Extent(m, c, x))
	}
}

// 6.6: of grids that are not square, the highest row first
func TestPictureOfGrids(t *testing.T) {
	for _, picture := range []string{"#\n", ".#?\n", "#\n?\n.\n", "#.?#\n?..?\n", "..\n.?\n#.\n##\n"} {
		rows := strings.Fields(picture)
		m, c := sketch(len(rows[0]), len(rows))
		is(t, "Picture", picture)(shape.Picture(m, c, drawn(picture)))
	}
}

// 6.2: a flux that just is the boundary flux is not above it
func TestJustAtTheBoundary(t *testing.T) {
	m, c := row()
	for _, a := range []struct {
		x       []api.Span
		picture string
	}{
		// the limiter point has up to 125,000 * (5 + 7), the first cell from 250,000 * 5 + 50,000 * 5 on
		{box(5, 5, 5, 7, 0, 0), "??.\n"},
		{box(5, 5, 5, 6, 0, 0), "##.\n"},
		{box(5, 5, 6, 7, 0, 0), "##.\n"},
		// the limiter point has from 125,000 * (2 + 6) on, the first cell up to 250,000 * 2 + 50,000 * 10
		{box(2, 2, 6, 10, 0, 0), ".#.\n"},
		{box(2, 2, 6, 11, 0, 0), "??.\n"},
		// all are 0
		{box(0, 0, 0, 0, 0, 0), "...\n"},
		{box(0, 0, 0, 0, 1, 1), ".##\n"},
	} {
		is(t, "Picture", a.picture)(shape.Picture(m, c, a.x))
		sure, possible := strings.Count(a.picture, "#"), 3-strings.Count(a.picture, ".")
		is(t, "Area of "+a.picture, sp(sure, possible))(shape.Area(m, c, a.x))
		if sure == 0 {
			noExtent(t, a.picture, api.ErrNone)(shape.Extent(m, c, a.x))
		}
	}
}

// 6.2
func TestMake(t *testing.T) {
	m, c := sketch(2, 2)
	x := drawn("?#\n.#\n")
	// of the total 20, 7 are left: 1 and 6 for the cells at R = 10, or 1 and 1 for those at R = 20; 1 and 1 for those at Z = -12, or 6 and 1 for those at Z = -2
	is(t, "Make", api.Shape{
		Radius: sp(16000, 17000),
		Height: sp(-6000, -5000),
		Area:   sp(2, 3),
		Top:    sp(-2, -2),
		Bottom: sp(-12, -12),
		Inner:  sp(10, 20),
		Outer:  sp(20, 20),
		// the shell has hardly more influence above the cells than below them
		Lift: sp(0, 1),
	})(shape.Make(m, c, 20, x))
	for _, total := range []int{12, 23} {
		none[api.Shape](t, "Make without a distribution", api.ErrNone)(shape.Make(m, c, total, x))
	}
	// the least and the greatest total have one distribution
	for total, radius := range map[int]api.Span{13: sp(19230, 19231), 22: sp(16363, 16364)} {
		s, e := shape.Make(m, c, total, x)
		is(t, "Make of the ends", radius)(s.Radius, e)
		is(t, "Make of the ends", sp(2, 3))(s.Area, e)
	}
}

// 6.2: a shape is made of what the other functions tell
func TestMakeOfSome(t *testing.T) {
	r := rand.New(rand.NewSource(3))
	seen := map[string]int{}
	for range 3000 {
		m, c, total := some(r, 4, api.MaxAmp)
		x := model{m, c}
		b := someBox(r, len(c.Plasma), total, total>>r.Intn(12))
		sure, rim := x.region(b)
		for what, n := range map[string]int{"inside": len(sure), "on the rim": len(rim), "outside": len(b) - len(sure) - len(rim)} {
			if n > 0 {
				seen[what]++
			}
		}
		is(t, "Area", sp(len(sure), len(sure)+len(rim)))(shape.Area(m, c, b))
		is(t, "Picture", drawing(x.sides(b), m.Grid.NR))(shape.Picture(m, c, b))
		if len(sure) == 0 {
			noExtent(t, "a box", api.ErrNone)(shape.Extent(m, c, b))
			none[api.Shape](t, "Make", api.ErrNone)(shape.Make(m, c, total, b))
			seen["without a cell inside"]++
			continue
		}
		e := extent(sure, rim)
		extents(t, "a box", e)(shape.Extent(m, c, b))
		radius, ok := weighted(total, b, x.radii(), 1000, total)
		if !ok {
			none[api.Shape](t, "Make", api.ErrNone)(shape.Make(m, c, total, b))
			seen["without a distribution"]++
			continue
		}
		height, _ := weighted(total, b, x.heights(), 1000, total)
		lift, _ := weighted(total, b, x.lifts(), 1, 1000000)
		seen["made"]++
		is(t, "Make", api.Shape{
			Radius: radius, Height: height, Area: sp(len(sure), len(sure)+len(rim)),
			Top: e[0], Bottom: e[1], Inner: e[2], Outer: e[3], Lift: lift,
		})(shape.Make(m, c, total, b))
	}
	enough(t, seen, 50, "inside", "on the rim", "outside", "without a cell inside", "without a distribution", "made")
}

// drawing returns the picture of sides.
func drawing(sides []api.Truth, columns int) string {
	var rows []string
	for row := range slices.Chunk(sides, columns) {
		text := ""
		for _, side := range row {
			text += map[api.Truth]string{api.Yes: "#", api.No: ".", api.Maybe: "?"}[side]
		}
		rows = append(rows, text+"\n")
	}
	slices.Reverse(rows)
	return strings.Join(rows, "")
}

// 6.2: the currents say where the plasma is, but only the box counts
func TestSidesOfAnyPlasma(t *testing.T) {
	m, c := sketch(2, 1)
	x := drawn("#?\n")
	shaped, _ := shape.Make(m, c, 9, x)
	for _, plasma := range [][]int{{0, 9}, {9, 0}, {0, api.MaxAmp}, {api.MaxAmp, 0}} {
		c.Plasma = plasma
		is(t, "Picture", "#?\n")(shape.Picture(m, c, x))
		is(t, "Area", sp(1, 2))(shape.Area(m, c, x))
		extents(t, "a box", [4]api.Span{sp(-12, -12), sp(-12, -12), sp(10, 10), sp(10, 20)})(shape.Extent(m, c, x))
		is(t, "Make", shaped)(shape.Make(m, c, 9, x))
	}
}

// Details: Area, Extent and Picture take boxes that are valid for MaxAmp, whatever their sum
func TestGreatestBoxes(t *testing.T) {
	m, c := sketch(2, 1)
	is(t, "Picture", "##\n")(shape.Picture(m, c, dots(api.MaxAmp, api.MaxAmp)))
	is(t, "Area", sp(2, 2))(shape.Area(m, c, dots(api.MaxAmp, api.MaxAmp)))
	is(t, "Picture", "??\n")(shape.Picture(m, c, box(0, api.MaxAmp, 0, api.MaxAmp)))
	is(t, "Area", sp(0, 2))(shape.Area(m, c, box(0, api.MaxAmp, 0, api.MaxAmp)))
	extents(t, "the greatest box", [4]api.Span{sp(-12, -12), sp(-12, -12), sp(10, 10), sp(20, 20)})(
		shape.Extent(m, c, dots(api.MaxAmp, api.MaxAmp)))
	for _, x := range [][]api.Span{box(0, api.MaxAmp+1, 0, 0), box(0, 0, 5, api.MaxAmp+1)} {
		none[string](t, "Picture", api.ErrInvalid)(shape.Picture(m, c, x))
		none[api.Span](t, "Area", api.ErrInvalid)(shape.Area(m, c, x))
		noExtent(t, "a box beyond MaxAmp", api.ErrInvalid)(shape.Extent(m, c, x))
	}
}
