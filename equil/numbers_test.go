package equil_test

import (
	"math"
	"math/rand"
	"slices"
	"testing"

	"shotdesk/api"
	"shotdesk/equil"
)

func TestKnown(t *testing.T) {
	m, c := pair()
	is(t, "Known of nothing", 0)(equil.Known(m, c, api.Point{}))
	c.Coils[0], c.Shells[0] = 10, 3
	is(t, "Known at a cell", 20*125000+3*14705)(equil.Known(m, c, api.Point{}))
	is(t, "Known at a limiter point", 20*25000+3*50000)(equil.Known(m, c, api.Point{R: -4}))
	c.Coils[0], c.Shells[0] = -10, -3
	is(t, "Known below 0", -20*25000-3*50000)(equil.Known(m, c, api.Point{R: -4}))
	// the cells' currents do not matter
	for _, plasma := range [][]int{{0, 0}, {api.MaxAmp, 0}} {
		c.Plasma = plasma
		is(t, "Known beside a plasma", -20*25000-3*50000)(equil.Known(m, c, api.Point{R: -4}))
	}
	c.Coils[0], c.Shells[0] = 1, 0
	for _, p := range []api.Point{{R: 100}, {R: -100}, {Z: 100}, {Z: -100}, {R: -100, Z: 100}} {
		is(t, "Known far away", 2*influence(p, api.Point{R: 2}))(equil.Known(m, c, p))
	}
}

func TestKnownOfSome(t *testing.T) {
	r := rand.New(rand.NewSource(1))
	for range 300 {
		m, c, total := some(r, 4, api.MaxAmp)
		p := api.Point{R: r.Intn(201) - 100, Z: r.Intn(201) - 100}
		is(t, "Known", model{m, c, total}.known(p))(equil.Known(m, c, p))
	}
}

func TestImage(t *testing.T) {
	m, c := pair()
	// of 3 and 1 the excesses are 800,000 - 164,705 and 400,000 - 164,705
	gives(t, "Image", sp(2, 3), sp(1, 2))(equil.Image(m, c, 4, []int{3, 1}))
	gives(t, "Image", sp(7, 8), sp(2, 3))(equil.Image(m, c, 10, []int{3, 1}))
	gives(t, "Image", sp(0, 1), sp(0, 1))(equil.Image(m, c, 1, []int{3, 1}))
	gives(t, "Image of halves", sp(5, 5), sp(5, 5))(equil.Image(m, c, 10, []int{3, 3}))
	gives(t, "Image of halves", sp(3, 4), sp(3, 4))(equil.Image(m, c, 7, []int{3, 3}))
	gives(t, "Image of the greatest numbers", sp(5, 5), sp(5, 5))(equil.Image(m, c, 10, []int{api.MaxAmp, api.MaxAmp}))
	// the first cell's flux just is the boundary flux
	gives(t, "Image of one cell", sp(0, 0), sp(7, 7))(equil.Image(m, c, 7, []int{0, 5}))
	fails[api.Span](t, "Image of nothing", api.ErrNone)(equil.Image(m, c, 7, []int{0, 0}))
	// 65 * 1,541,165 is 37 times the sum and 1, and 65 * 1,166,287 is 28 times the sum less 1
	c.Shells[0] = 22
	gives(t, "Image beside whole numbers", sp(37, 38), sp(27, 28))(equil.Image(m, c, 65, []int{10, 9}))
	// the shell's flux is 150,000 at the nearer limiter point, 44,115 and 20,268 at the cells
	c.Shells[0] = 3
	fails[api.Span](t, "Image below the boundary flux", api.ErrNone)(equil.Image(m, c, 7, []int{0, 0}))
	gives(t, "Image above the boundary flux", sp(0, 0), sp(7, 7))(equil.Image(m, c, 7, []int{0, 1}))
	gives(t, "Image above the boundary flux", sp(7, 7), sp(0, 0))(equil.Image(m, c, 7, []int{1, 0}))
	// with the coil, too, the cells have 294,115 and 270,268, and the limiter point 200,000
	c.Coils[0] = 1
	gives(t, "Image of known flux", sp(3, 4), sp(2, 3))(equil.Image(m, c, 6, []int{0, 0}))
	// the cells have 5,900 and 164,880, and the farther limiter point -12,215
	c.Coils[0], c.Shells[0] = 0, -20
	gives(t, "Image above a flux below 0", sp(0, 1), sp(5, 6))(equil.Image(m, c, 6, []int{1, 1}))
}

// Example: the image of any current above 0 is the total
func TestImageOfOneCell(t *testing.T) {
	m, c := single(0)
	for _, total := range []int{1, 5, 6, api.MaxAmp} {
		for _, n := range []int{1, 2, total, api.MaxAmp} {
			gives(t, "Image", sp(total, total))(equil.Image(m, c, total, []int{n}))
		}
	}
	fails[api.Span](t, "Image of nothing", api.ErrNone)(equil.Image(m, c, 1, []int{0}))
}

// Details: total * excess may be longer than 64 bits
func TestImageOfLongProducts(t *testing.T) {
	m, c := great()
	for _, total := range []int{1, 999999, api.MaxAmp} {
		for _, n := range []int{api.MaxAmp, -api.MaxAmp} {
			for i := range c.Coils {
				c.Coils[i] = n
			}
			j := make([]int, 64)
			j[9] = total
			checkNumbers(t, model{m, c, total}, j)
		}
	}
}

// checkNumbers holds what is told of numbers against the model.
func checkNumbers(t *testing.T, x model, j []int) {
	t.Helper()
	exact, ok := x.exact(j)
	if !ok {
		fails[api.Span](t, "Image", api.ErrNone)(equil.Image(x.m, x.c, x.total, j))
		fails[int](t, "Round", api.ErrNone)(equil.Round(x.m, x.c, x.total, j))
		return
	}
	var image []api.Span
	for _, a := range exact {
		down, more := rounded(a)
		image = append(image, sp(down, down))
		if more {
			image[len(image)-1].Hi++
		}
	}
	gives(t, "Image", image...)(equil.Image(x.m, x.c, x.total, j))
	next, _ := x.round(j)
	gives(t, "Round", next...)(equil.Round(x.m, x.c, x.total, j))
}

func TestNumbersOfSome(t *testing.T) {
	r := rand.New(rand.NewSource(2))
	for range 2000 {
		m, c, total := some(r, 4, api.MaxAmp)
		checkNumbers(t, model{m, c, total}, someNumbers(r, len(c.Plasma), total))
	}
}

func TestEven(t *testing.T) {
	for _, x := range []struct {
		cells, total int
		want         []int
	}{
		{1, 1, []int{1}}, {1, api.MaxAmp, []int{api.MaxAmp}}, {4, 8, []int{2, 2, 2, 2}}, {4, 10, []int{3, 3, 2, 2}},
		{4, 3, []int{1, 1, 1, 0}}, {3, api.MaxAmp, []int{333334, 333333, 333333}}, {5, 1, []int{1, 0, 0, 0, 0}},
	} {
		gives(t, "Even", x.want...)(equil.Even(x.cells, x.total), api.OK)
	}
	j := equil.Even(64, api.MaxAmp-1)
	if len(j) != 64 || j[62] != 15625 || j[63] != 15624 {
		t.Errorf("Even of 64 cells = %v", j)
	}
	for _, n := range append([]int{0, -1}, wild...) {
		for _, x := range [][2]int{{n, 10}, {4, n}, {n, n}, {65, 10}, {4, api.MaxAmp + 1}} {
			if j := equil.Even(x[0], x[1]); len(j) != 0 {
				t.Errorf("Even of %v = %v", x, j)
			}
		}
	}
}

func TestRound(t *testing.T) {
	m, c := pair()
	gives(t, "Round", 3, 1)(equil.Round(m, c, 4, []int{3, 1}))
	// 7.30 and 2.70: the first cell gets what is missing, not that which is the nearer to it
	gives(t, "Round", 8, 2)(equil.Round(m, c, 10, []int{3, 1}))
	gives(t, "Round of halves", 4, 3)(equil.Round(m, c, 7, []int{3, 3}))
	gives(t, "Round of another sum", 5, 5)(equil.Round(m, c, 10, []int{300, 300}))
	gives(t, "Round of one cell", 0, 7)(equil.Round(m, c, 7, []int{0, 5}))
	fails[int](t, "Round of nothing", api.ErrNone)(equil.Round(m, c, 7, []int{0, 0}))
	// the first cell has no excess, and so nothing of what is missing
	m, c = row()
	gives(t, "Round", 0, 2, 1)(equil.Round(m, c, 3, []int{0, 2, 2}))
	gives(t, "Round", 0, 2, 2)(equil.Round(m, c, 4, []int{0, 2, 2}))
	gives(t, "Round", 0, 1, 0)(equil.Round(m, c, 1, []int{0, 2, 2}))
	// the excesses are 119,115 and 225,000 and 119,115: 0.77, 1.46 and 0.77 of 3, so that 2 are missing
	gives(t, "Round", 1, 2, 0)(equil.Round(m, c, 3, []int{3, 3, 3}))
}

func TestIterate(t *testing.T) {
	m, c := pair()
	iterated := func(call string, total int, j []int, n int, want []int, made int) {
		t.Helper()
		got, k, e := equil.Iterate(m, c, total, j, n)
		if e != api.OK || k != made || !slices.Equal(got, want) {
			t.Errorf("%s = %v, %d, %d, not %v, %d", call, got, k, e, want, made)
		}
	}
	iterated("Iterate", 10, []int{3, 1}, 1, []int{8, 2}, 1)
	iterated("Iterate", 10, []int{3, 1}, 2, []int{8, 2}, 1)
	iterated("Iterate", 10, []int{3, 1}, 1000, []int{8, 2}, 1)
	iterated("Iterate of what stays", 10, []int{8, 2}, 5, []int{8, 2}, 0)
	iterated("Iterate of no rounds", 10, []int{3, 1}, 0, []int{3, 1}, 0)
	iterated("Iterate of no rounds where there is none", 10, []int{0, 0}, 0, []int{0, 0}, 0)
	got, made, e := equil.Iterate(m, c, 10, []int{0, 0}, 1)
	if len(got) != 0 || made != 0 || e != api.ErrNone {
		t.Errorf("Iterate of nothing = %v, %d, %d", got, made, e)
	}
	for _, n := range append([]int{-1, 1001}, wild...) {
		if got, made, e := equil.Iterate(m, c, 10, []int{3, 1}, n); len(got) != 0 || made != 0 || e != api.ErrRange {
			t.Errorf("Iterate of %d rounds = %v, %d, %d", n, got, made, e)
		}
	}
}

// the shell leaves an excess to 1,000, and none to the total: the first round is none's last
func TestIterateIntoNone(t *testing.T) {
	m, c := single(10)
	got, made, e := equil.Iterate(m, c, 1, []int{1000}, 1)
	if !slices.Equal(got, []int{1}) || made != 1 || e != api.OK {
		t.Errorf("Iterate of 1 round = %v, %d, %d", got, made, e)
	}
	for _, n := range []int{2, 3, 1000} {
		if got, made, e := equil.Iterate(m, c, 1, []int{1000}, n); len(got) != 0 || made != 0 || e != api.ErrNone {
			t.Errorf("Iterate of %d rounds = %v, %d, %d", n, got, made, e)
		}
	}
}

func TestIterateOfSome(t *testing.T) {
	r := rand.New(rand.NewSource(3))
	least, most, none := math.MaxInt, 0, 0
	for range 400 {
		m, c, total := some(r, 3, api.MaxAmp)
		x, j, n := model{m, c, total}, someNumbers(r, len(c.Plasma), total), r.Intn(12)
		want, rounds, ok := x.iterate(j, n)
		got, made, e := equil.Iterate(m, c, total, j, n)
		if !slices.Equal(got, want) || made != rounds || (e == api.OK) != ok || !ok && e != api.ErrNone {
			t.Errorf("Iterate = %v, %d, %d, not %v, %d, %v", got, made, e, want, rounds, ok)
		}
		if ok {
			least, most = min(least, n-made), max(most, n-made)
		} else {
			none++
		}
	}
	if least != 0 || most < 8 || none == 0 {
		t.Errorf("too few cases: from %d to %d rounds saved, %d without", least, most, none)
	}
}
