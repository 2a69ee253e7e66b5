package shape_test

import (
	"math/rand"
	"testing"

	"shotdesk/api"
	"shotdesk/shape"
)

// 6.3
func TestClearance(t *testing.T) {
	// a current of 1 gives the limiter points 200,000, 125,000 and 76,923
	m, c := mate(api.Grid{NR: 1, NZ: 1, Step: 1}, api.Point{R: 1}, api.Point{R: -2}, api.Point{Z: 3})
	gives(t, "Clearance", sp(0, 0), sp(750000, 750000), sp(1230770, 1230770))(shape.Clearance(m, c, dots(10)))
	gives(t, "Clearance", sp(0, 0), sp(10*200000-11*125000, 11*200000-10*125000), sp(10*200000-11*76923, 11*200000-10*76923))(
		shape.Clearance(m, c, box(10, 11)))
	// the fluxes of the points may be the greatest in turn
	gives(t, "Clearance", sp(0, 20*125000-10*200000), sp(0, 20*200000-10*125000), sp(10*200000-20*76923, 20*200000-10*76923))(
		shape.Clearance(m, c, box(10, 20)))
	gives(t, "Clearance of nothing", sp(0, 0), sp(0, 0), sp(0, 0))(shape.Clearance(m, c, dots(0)))
	// a shell at the last one gives it 250,000 and the others 71,428 and 58,823
	m, c = with(m, c, 0, 3, 0, 40)
	gives(t, "Clearance beside a shell", sp(10000000+10*76923-40*71428-11*200000, 10000000+11*76923-40*71428-10*200000),
		sp(10000000+10*76923-40*58823-11*125000, 10000000+11*76923-40*58823-10*125000), sp(0, 0))(shape.Clearance(m, c, box(10, 11)))
	// below 0 as above it
	c.Shells[0] = -40
	gives(t, "Clearance below 0", sp(0, 0), sp(40*(58823-71428)+750000, 40*(58823-71428)+750000), sp(10000000-40*71428+1230770, 10000000-40*71428+1230770))(
		shape.Clearance(m, c, dots(10)))
}

// 6.3: at the only limiter point it is 0..0, whatever its flux
func TestClearanceOfOnePoint(t *testing.T) {
	m, c := sketch(2, 1)
	for _, n := range []int{4, 0, -4, api.MaxAmp, -api.MaxAmp} {
		c.Shells[0] = n
		gives(t, "Clearance", sp(0, 0))(shape.Clearance(m, c, box(0, api.MaxAmp, 0, api.MaxAmp)))
	}
}

// 6.3: equal fluxes are clear of nothing
func TestClearanceOfEqualPoints(t *testing.T) {
	m, c := two()
	gives(t, "Clearance", sp(0, 0), sp(0, 0))(shape.Clearance(m, c, dots(5, 5)))
	gives(t, "Clearance", sp(0, 175000), sp(0, 175000))(shape.Clearance(m, c, box(5, 6, 5, 6)))
	gives(t, "Clearance", sp(75000, 75000), sp(0, 0))(shape.Clearance(m, c, dots(5, 6)))
}

// 6.3
func TestAxis(t *testing.T) {
	m, c := row()
	for _, a := range []struct {
		x    []api.Span
		want []int
	}{
		{dots(5, 5, 5), []int{1}},
		{dots(9, 0, 0), []int{0}},
		{dots(0, 0, 9), []int{2}},
		{dots(0, 0, 0), []int{0, 1, 2}},
		{dots(4, 0, 4), []int{0, 2}},
		// the first cell has up to 250,000 * 3 + 50,000 * 8, the second one from 50,000 * 3 + 250,000 * 4 on
		{box(3, 3, 4, 8, 0, 0), []int{0, 1}},
		{box(3, 3, 4, 7, 0, 0), []int{1}},
		{box(0, 9, 0, 9, 0, 9), []int{0, 1, 2}},
		{box(0, 9, 5, 5, 0, 1), []int{0, 1}},
		// a cell without the greatest lower end, nor the greatest upper end
		{box(6, 6, 0, 0, 5, 9), []int{0, 2}},
	} {
		gives(t, "Axis", a.want...)(shape.Axis(m, c, a.x))
	}
	// a shell makes the last cell's flux the greatest one without a current
	m, c = with(m, c, 8, 0, 0, 100)
	gives(t, "Axis beside a shell", 2)(shape.Axis(m, c, box(0, 9, 0, 9, 0, 0)))
	// Details: also cells that are surely outside
	m, c = sketch(2, 1)
	is(t, "Picture", "..\n")(shape.Picture(m, c, box(0, 1, 1, 1)))
	gives(t, "Axis of cells that are outside", 1)(shape.Axis(m, c, dots(0, 1)))
	gives(t, "Axis of cells that are outside", 0, 1)(shape.Axis(m, c, box(0, 1, 1, 1)))
	// the shell is nearer to the first cell
	gives(t, "Axis of cells that are outside", 0)(shape.Axis(m, c, dots(0, 0)))
}

// 6.3, of any machine and whatever the plasma of the currents
func TestFluxesOfSome(t *testing.T) {
	r := rand.New(rand.NewSource(4))
	seen := map[string]int{}
	for range 2000 {
		m, c, total := some(r, 4, api.MaxAmp)
		x := model{m, c}
		b := someBox(r, len(c.Plasma), total, total>>r.Intn(12))
		want := x.clearance(b)
		gives(t, "Clearance", want...)(shape.Clearance(m, c, b))
		axis := x.axis(b)
		gives(t, "Axis", axis...)(shape.Axis(m, c, b))
		for _, a := range want {
			if a.Lo > 0 {
				seen["clear"]++
			} else if a.Hi > 0 {
				seen["possibly clear"]++
			}
		}
		if len(axis) > 1 && len(axis) < len(b) {
			seen["several cells"]++
		}
	}
	enough(t, seen, 200, "clear", "possibly clear", "several cells")
}

// 6.3: boxes are valid for MaxAmp, and the greatest fluxes have exact differences
func TestGreatestFluxes(t *testing.T) {
	m, c := great()
	for _, b := range [][]api.Span{someBox(rand.New(rand.NewSource(5)), 64, api.MaxAmp, api.MaxAmp), dots(make([]int, 64)...)} {
		for i := range b {
			b[i].Hi = api.MaxAmp
		}
		for range 2 {
			gives(t, "Clearance", model{m, c}.clearance(b)...)(shape.Clearance(m, c, b))
			gives(t, "Axis", model{m, c}.axis(b)...)(shape.Axis(m, c, b))
			for i := range c.Coils {
				c.Coils[i] *= -1
			}
		}
		b[63].Hi++
		if l, e := shape.Clearance(m, c, b); len(l) != 0 || e != api.ErrInvalid {
			t.Errorf("Clearance of a box beyond MaxAmp = %v, %d", l, e)
		}
		if l, e := shape.Axis(m, c, b); len(l) != 0 || e != api.ErrInvalid {
			t.Errorf("Axis of a box beyond MaxAmp = %v, %d", l, e)
		}
	}
}
