package machine_test

import (
	"math/big"
	"math/rand"
	"slices"
	"testing"

	"shotdesk/api"
	"shotdesk/machine"
)

// fluxOf is the flux as the chapter says it, in big numbers.
func fluxOf(m api.Machine, c api.Currents, p api.Point) *big.Int {
	sum := new(big.Int)
	add := func(r, z, turns, current int) {
		dr, dz := big.NewInt(int64(r-p.R)), big.NewInt(int64(z-p.Z))
		below := new(big.Int).Add(dr.Mul(dr, dr), dz.Mul(dz, dz))
		influence := new(big.Int).Div(big.NewInt(1000000), below.Add(below, big.NewInt(4)))
		all := new(big.Int).Mul(big.NewInt(int64(turns)), big.NewInt(int64(current)))
		sum.Add(sum, all.Mul(all, influence))
	}
	for i, x := range m.Coils {
		add(x.R, x.Z, x.Turns, c.Coils[i])
	}
	for i, x := range m.Shells {
		add(x.R, x.Z, 1, c.Shells[i])
	}
	for z := range m.Grid.NZ {
		for r := range m.Grid.NR {
			add(m.Grid.R+r*m.Grid.Step, m.Grid.Z+z*m.Grid.Step, 1, c.Plasma[z*m.Grid.NR+r])
		}
	}
	return sum
}

func fieldOf(m api.Machine, c api.Currents, p api.Point) (radial, vertical *big.Int) {
	flux := func(dr, dz int) *big.Int { return fluxOf(m, c, pt(p.R+dr, p.Z+dz)) }
	return new(big.Int).Sub(flux(0, -1), flux(0, 1)), new(big.Int).Sub(flux(1, 0), flux(-1, 0))
}

// forceOf rounds down: a big number's Div does so where the divisor is above 0.
func forceOf(m api.Machine, c api.Currents, i int) (r, z *big.Int) {
	coil := m.Coils[i]
	radial, vertical := fieldOf(m, c, pt(coil.R, coil.Z))
	turns := big.NewInt(int64(coil.Turns * c.Coils[i]))
	down := func(n *big.Int) *big.Int { return n.Div(n, big.NewInt(1000000000)) }
	return down(vertical.Mul(vertical, turns)), down(radial.Mul(radial, turns.Neg(turns)))
}

func equal(n int, b *big.Int) bool { return b.IsInt64() && b.Int64() == int64(n) }

// 2.2, P2.2, Examples
func TestInfluence(t *testing.T) {
	for _, c := range []struct {
		a, b api.Point
		want int
	}{
		{pt(0, 0), pt(3, 4), 34482}, {pt(3, 4), pt(0, 0), 34482}, {pt(-5, 7), pt(-5, 7), 250000}, {pt(0, 0), pt(1, 0), 200000}, {pt(0, 0), pt(0, -1), 200000},
		{pt(1, 1), pt(2, 2), 166666}, {pt(-60, -60), pt(60, 60), 34}, {pt(0, 0), pt(999, 0), 1}, {pt(0, 0), pt(1000, 0), 0}, {pt(0, 0), pt(0, 998), 1},
		{pt(1000, 1000), pt(1000, 1000), 250000}, {pt(-1000, -1000), pt(-1000, -1000), 250000}, {pt(1000, -1000), pt(-1000, 1000), 0},
		{pt(1001, 0), pt(1001, 0), 0}, {pt(0, 1001), pt(0, 1001), 0}, {pt(-1001, 0), pt(-1001, 0), 0}, {pt(0, -1001), pt(0, -1001), 0},
		{pt(1000, 0), pt(1001, 0), 0}, {pt(0, 1000), pt(0, 1001), 0}, {pt(-1000, 0), pt(-1001, 0), 0}, {pt(0, -1000), pt(0, -1001), 0},
	} {
		if n := machine.Influence(c.a, c.b); n != c.want {
			t.Errorf("Influence of %v and %v = %d, want %d", c.a, c.b, n, c.want)
		}
		if n := machine.Influence(c.b, c.a); n != c.want {
			t.Errorf("Influence of %v and %v = %d, want %d", c.b, c.a, n, c.want)
		}
	}
	for _, n := range wild {
		for _, p := range []api.Point{pt(n, 0), pt(0, n), pt(n, n), pt(n, 1-n)} {
			if machine.Influence(p, p) != 0 || machine.Influence(p, pt(0, 0)) != 0 || machine.Influence(pt(0, 0), p) != 0 {
				t.Errorf("Influence of %v", p)
			}
		}
	}
	for r := -40; r <= 40; r++ {
		for z := -40; z <= 40; z++ {
			n, below := machine.Influence(pt(7, -3), pt(7+r, z-3)), 4+r*r+z*z
			if n*below > 1000000 || (n+1)*below <= 1000000 {
				t.Errorf("Influence at the distances %d and %d = %d", r, z, n)
			}
		}
	}
}

// 2.2, P2.2
func TestKernel(t *testing.T) {
	r := rand.New(rand.NewSource(2))
	machines := []api.Machine{small(), bare(), most(), least()}
	for range 20 {
		m, _ := some(r)
		machines = append(machines, m)
	}
	for _, m := range machines {
		k, n := machine.Kernel(m), machine.Cells(m)
		if len(k) != n {
			t.Fatalf("Kernel has %d lists for %d cells", len(k), n)
		}
		for i := range n {
			if len(k[i]) != n {
				t.Fatalf("Kernel's list %d has %d numbers for %d cells", i, len(k[i]), n)
			}
			for j := range n {
				p, _ := machine.Cell(m, i)
				q, _ := machine.Cell(m, j)
				if k[i][j] != machine.Influence(p, q) || k[i][j] != k[j][i] {
					t.Errorf("Kernel of %v at %d and %d = %d", m.Grid, i, j, k[i][j])
				}
			}
		}
	}
}

// 2.2
func TestQuiet(t *testing.T) {
	for _, m := range []api.Machine{small(), bare(), most(), least()} {
		c := machine.Quiet(m)
		if len(c.Coils) != len(m.Coils) || len(c.Shells) != len(m.Shells) || len(c.Plasma) != m.Grid.NR*m.Grid.NZ {
			t.Errorf("Quiet = %v", c)
		}
		for _, n := range slices.Concat(c.Coils, c.Shells, c.Plasma) {
			if n != 0 {
				t.Errorf("Quiet = %v", c)
			}
		}
		if !machine.ValidCurrents(m, c) {
			t.Errorf("%v are valid", c)
		}
	}
}

// 2.2
func TestValidCurrents(t *testing.T) {
	change := func(do func(c *api.Currents)) api.Currents {
		c := filled()
		do(&c)
		return c
	}
	for _, c := range []api.Currents{
		filled(),
		change(func(c *api.Currents) { c.Coils[0], c.Coils[1] = api.MaxAmp, -api.MaxAmp }),
		change(func(c *api.Currents) { c.Shells[0], c.Shells[1] = api.MaxAmp, -api.MaxAmp }),
		change(func(c *api.Currents) { c.Plasma[0] = api.MaxAmp - 130 }),
		change(func(c *api.Currents) { clear(c.Plasma); c.Plasma[11] = api.MaxAmp }),
	} {
		if !machine.ValidCurrents(small(), c) {
			t.Errorf("%v are valid", c)
		}
	}
	for what, c := range wrongCurrents() {
		if machine.ValidCurrents(small(), c) {
			t.Errorf("%s: %v are not valid", what, c)
		}
	}
	if !machine.ValidCurrents(bare(), api.Currents{Plasma: []int{5}}) {
		t.Error("nil lists and empty lists are the same")
	}
}

// 2.2
func TestTotal(t *testing.T) {
	for _, c := range []struct {
		plasma []int
		want   int
	}{{nil, 0}, {[]int{}, 0}, {[]int{5}, 5}, {[]int{1, 2, 3}, 6}, {[]int{-7, 2}, -5}, {[]int{1 << 62, 1 << 61, -5}, 3<<61 - 5}} {
		if n := machine.Total(api.Currents{Coils: []int{100}, Shells: []int{1000}, Plasma: c.plasma}); n != c.want {
			t.Errorf("Total of %v = %d, want %d", c.plasma, n, c.want)
		}
	}
	if n := machine.Total(filled()); n != 130 {
		t.Errorf("Total = %d", n)
	}
}

// 2.3, Examples
func TestFluxOfOneCoil(t *testing.T) {
	m := bare()
	m.Coils = []api.Coil{{Name: "c", Turns: 2, MaxCurrent: 100, MaxStep: 100, MaxHeat: 1}}
	c := machine.Quiet(m)
	c.Coils[0] = 10
	if n, e := machine.Flux(m, c, pt(3, 4)); n != 689640 || e != api.OK {
		t.Errorf("Flux = %d, %d", n, e)
	}
	// 20 times the influences 1000000 / (4 + 9 + 9) = 45454 and 1000000 / (4 + 9 + 25) = 26315, and / (4 + 16 + 16) = 27777 and / (4 + 4 + 16) = 41666
	if radial, vertical, e := machine.Field(m, c, pt(3, 4)); radial != 20*(45454-26315) || vertical != 20*(27777-41666) || e != api.OK {
		t.Errorf("Field = %d, %d, %d", radial, vertical, e)
	}
}

// 2.3: held against big numbers
func TestFluxFieldForceExact(t *testing.T) {
	r := rand.New(rand.NewSource(3))
	for range 150 {
		m, c := some(r)
		if r.Intn(5) == 0 {
			m = most()
			c = someCurrents(r, m, api.MaxAmp)
		}
		p := pt(r.Intn(201)-100, r.Intn(201)-100)
		if n, e := machine.Flux(m, c, p); !equal(n, fluxOf(m, c, p)) || e != api.OK {
			t.Errorf("Flux at %v = %d, %d", p, n, e)
		}
		checkField(t, m, c, p)
		checkForces(t, m, c)
		for i, s := range m.Sensors {
			radial, vertical := fieldOf(m, c, pt(s.R, s.Z))
			want := []*big.Int{nil, fluxOf(m, c, pt(s.R, s.Z)), radial, vertical}[s.Kind]
			if n, e := machine.Exact(m, c, i); !equal(n, want) || e != api.OK {
				t.Errorf("Exact of %v = %d, %d, want %d", s, n, e, want)
			}
		}
	}
}

func checkField(t *testing.T, m api.Machine, c api.Currents, p api.Point) {
	t.Helper()
	wantRadial, wantVertical := fieldOf(m, c, p)
	if radial, vertical, e := machine.Field(m, c, p); !equal(radial, wantRadial) || !equal(vertical, wantVertical) || e != api.OK {
		t.Errorf("Field at %v = %d, %d, %d", p, radial, vertical, e)
	}
}

func checkForces(t *testing.T, m api.Machine, c api.Currents) {
	t.Helper()
	for i := range m.Coils {
		wantR, wantZ := forceOf(m, c, i)
		if r, z, e := machine.Force(m, c, i); !equal(r, wantR) || !equal(z, wantZ) || e != api.OK {
			t.Errorf("Force on %d = %d, %d, %d, want %d, %d", i, r, z, e, wantR, wantZ)
		}
	}
}

// 2.3: the greatest flux, fields and forces, of which the products are longer than 64 bits
func TestGreatestCurrents(t *testing.T) {
	for shift := range 4 {
		for _, sign := range []int{1, -1} {
			m := most()
			for i := range m.Coils {
				m.Coils[i].R, m.Coils[i].Z = 60-i%2*(1+shift), 60
			}
			c := machine.Quiet(m)
			for i := range c.Coils {
				c.Coils[i] = sign * (api.MaxAmp - i)
			}
			for i := range c.Shells {
				c.Shells[i] = -sign * api.MaxAmp
			}
			c.Plasma[63] = api.MaxAmp
			for _, p := range []api.Point{pt(60, 60), pt(59, 59), pt(60-shift, 61)} {
				if n, e := machine.Flux(m, c, p); !equal(n, fluxOf(m, c, p)) || e != api.OK {
					t.Errorf("Flux at %v = %d, %d", p, n, e)
				}
				checkField(t, m, c, p)
			}
			checkForces(t, m, c)
		}
	}
}

// 2.3: forces are rounded down, also below 0, and not where nothing is left
func TestForceRounding(t *testing.T) {
	m := bare()
	m.Coils = []api.Coil{
		{Name: "a", Turns: 1, MaxCurrent: 1, MaxStep: 1, MaxHeat: 1},
		{Name: "b", R: 1, Turns: 1, MaxCurrent: 1, MaxStep: 1, MaxHeat: 1},
	}
	// of one ampere in b, the vertical field at a is 250000 - 125000
	for _, c := range []struct{ a, b, r int }{
		{1, 1, 0}, {-1, 1, -1}, {1, -1, -1}, {-1, -1, 0}, {100, 79, 0}, {100, 80, 1}, {-100, 80, -1}, {100, -80, -1}, {100, -81, -2},
		{100, 159, 1}, {-100, 159, -2}, {-100, 160, -2}, {-100, 161, -3}, {100, -160, -2}, {0, 5, 0}, {5, 0, 0}, {1000000, 1000000, 125000000}, {-1000000, 999999, -124999875},
	} {
		x := api.Currents{Coils: []int{c.a, c.b}, Plasma: []int{0}}
		if r, z, e := machine.Force(m, x, 0); r != c.r || z != 0 || e != api.OK {
			t.Errorf("Force for %d and %d = %d, %d, %d, want %d, 0", c.a, c.b, r, z, e, c.r)
		}
	}
	m.Coils[1].R, m.Coils[1].Z = 0, 1
	// now the radial field at a is 125000 - 250000, and the force against it
	for _, c := range []struct{ a, b, z int }{{1, 1, 0}, {-1, 1, -1}, {100, 79, 0}, {100, 80, 1}, {100, -80, -1}, {100, -81, -2}, {-100, 161, -3}} {
		x := api.Currents{Coils: []int{c.a, c.b}, Plasma: []int{0}}
		if r, z, e := machine.Force(m, x, 0); r != 0 || z != c.z || e != api.OK {
			t.Errorf("Force for %d and %d = %d, %d, %d, want 0, %d", c.a, c.b, r, z, e, c.z)
		}
	}
}

// 2.3: where there is no answer
func TestRanges(t *testing.T) {
	m, c := small(), filled()
	for _, n := range append([]int{-101, 101}, wild...) {
		for _, p := range []api.Point{pt(n, 0), pt(0, n), pt(n, n)} {
			if f, e := machine.Flux(m, c, p); f != 0 || e != api.ErrRange {
				t.Errorf("Flux at %v = %d, %d", p, f, e)
			}
			if radial, vertical, e := machine.Field(m, c, p); radial != 0 || vertical != 0 || e != api.ErrRange {
				t.Errorf("Field at %v = %d, %d, %d", p, radial, vertical, e)
			}
		}
	}
	for _, p := range []api.Point{pt(-100, -100), pt(100, 100), pt(-100, 100), pt(100, -100)} {
		if f, e := machine.Flux(m, c, p); !equal(f, fluxOf(m, c, p)) || e != api.OK {
			t.Errorf("Flux at %v = %d, %d", p, f, e)
		}
		checkField(t, m, c, p)
	}
	for _, i := range append([]int{-1, 2}, wild...) {
		if r, z, e := machine.Force(m, c, i); r != 0 || z != 0 || e != api.ErrRange {
			t.Errorf("Force on %d = %d, %d, %d", i, r, z, e)
		}
		if n, e := machine.Exact(m, c, i); n != 0 || e != api.ErrRange {
			t.Errorf("Exact of %d = %d, %d", i, n, e)
		}
	}
	quiet := machine.Quiet(bare())
	if _, _, e := machine.Force(bare(), quiet, 0); e != api.ErrRange {
		t.Errorf("Force on no coil: %d", e)
	}
	if _, e := machine.Exact(bare(), quiet, 0); e != api.ErrRange {
		t.Errorf("Exact of no sensor: %d", e)
	}
}

// 2.3
func TestLinked(t *testing.T) {
	r := rand.New(rand.NewSource(4))
	for range 100 {
		m, c := some(r)
		alone := machine.Quiet(m)
		copy(alone.Coils, c.Coils)
		n := m.Grid.NR * m.Grid.NZ / 2
		middle := pt(m.Grid.R+n%m.Grid.NR*m.Grid.Step, m.Grid.Z+n/m.Grid.NR*m.Grid.Step)
		if f, e := machine.Linked(m, c); !equal(f, fluxOf(m, alone, middle)) || e != api.OK {
			t.Errorf("Linked = %d, %d", f, e)
		}
	}
	// cell 6 of 12 is at 10, 2: 4000 * (1000000 / 102) - 12000 * (1000000 / 129)
	if f, e := machine.Linked(small(), filled()); f != 4000*9803-12000*7751 || e != api.OK {
		t.Errorf("Linked = %d, %d", f, e)
	}
	// cell 4 of 9 is the one in the middle
	m, c := small(), filled()
	m.Grid, c.Plasma = api.Grid{R: 1, Z: 7, NR: 3, NZ: 3, Step: 2}, make([]int, 9)
	if f, e := machine.Linked(m, c); !equal(f, fluxOf(m, api.Currents{Coils: c.Coils, Shells: []int{0, 0}, Plasma: c.Plasma}, pt(3, 9))) || e != api.OK {
		t.Errorf("Linked = %d, %d", f, e)
	}
}

// invalidCalls calls all that takes currents, with arguments that would be out of range too.
func invalidCalls(t *testing.T, what string, m api.Machine, c api.Currents) {
	t.Helper()
	for _, n := range []int{0, 1000, -1} {
		if f, e := machine.Flux(m, c, pt(n, n)); f != 0 || e != api.ErrInvalid {
			t.Errorf("%s: Flux = %d, %d", what, f, e)
		}
		if radial, vertical, e := machine.Field(m, c, pt(n, n)); radial != 0 || vertical != 0 || e != api.ErrInvalid {
			t.Errorf("%s: Field = %d, %d, %d", what, radial, vertical, e)
		}
		if r, z, e := machine.Force(m, c, n); r != 0 || z != 0 || e != api.ErrInvalid {
			t.Errorf("%s: Force = %d, %d, %d", what, r, z, e)
		}
		if f, e := machine.Exact(m, c, n); f != 0 || e != api.ErrInvalid {
			t.Errorf("%s: Exact = %d, %d", what, f, e)
		}
	}
	if f, e := machine.Linked(m, c); f != 0 || e != api.ErrInvalid {
		t.Errorf("%s: Linked = %d, %d", what, f, e)
	}
	if x, d, e := machine.Mirror(m, c); !emptyMachine(x) || !emptyCurrents(d) || e != api.ErrInvalid {
		t.Errorf("%s: Mirror = %v, %v, %d", what, x, d, e)
	}
}

func emptyMachine(m api.Machine) bool {
	return m.Name == "" && len(m.Coils)+len(m.Shells)+len(m.Limits)+len(m.Sensors) == 0 && m.Grid == api.Grid{}
}

func emptyCurrents(c api.Currents) bool { return len(c.Coils)+len(c.Shells)+len(c.Plasma) == 0 }

// 2.2, 2.3, 2.4: machines and currents that are not valid
func TestCallsInvalid(t *testing.T) {
	for _, f := range flaws() {
		if k, c := machine.Kernel(f.m), machine.Quiet(f.m); len(k) != 0 || !emptyCurrents(c) {
			t.Errorf("%s: Kernel = %v, Quiet = %v", f.what, k, c)
		}
		if machine.ValidCurrents(f.m, filled()) || machine.ValidCurrents(f.m, api.Currents{}) {
			t.Errorf("%s: currents are valid", f.what)
		}
		invalidCalls(t, f.what, f.m, filled())
	}
	for what, c := range wrongCurrents() {
		invalidCalls(t, what, small(), c)
	}
}

// the example of README.md
func TestReadmeExample(t *testing.T) {
	m, _, e := machine.Parse("machine demo\ncoil a 0 0 2 100 10 1000 5\nlimit 20 0\ngrid 10 -2 3 3 2\n")
	if e != api.OK {
		t.Fatalf("Parse: %d", e)
	}
	c := machine.Quiet(m)
	c.Coils[0] = 10
	if flux, e := machine.Flux(m, c, pt(3, 4)); flux != 689640 || e != api.OK {
		t.Errorf("Flux = %d, %d", flux, e)
	}
}
