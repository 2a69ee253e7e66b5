package control_test

import (
	"math/rand"
	"testing"

	"shotdesk/api"
	"shotdesk/circuit"
	"shotdesk/control"
	"shotdesk/machine"
)

// 7.2
func TestForces(t *testing.T) {
	m, c := pair()
	both := func(what string, firstR, firstZ, secondR, secondZ api.Span, x ...int) {
		t.Helper()
		gives(t, "Forces of "+what, [2]api.Span{firstR, firstZ}, [2]api.Span{secondR, secondZ})(control.Forces(m, c, box(x...)))
	}
	// an ampere of the cells is a vertical field of 75,000 and 13,889 at the coil a, and a radial one of 0 and -19,139
	c.Coils[0] = 1000
	both("cells", sp(75, 157), sp(0, 10), sp(0, 0), sp(0, 0), 10, 20, 0, 5)
	both("one cell", sp(0, 0), sp(0, 0), sp(0, 0), sp(0, 0), 0, 0, 0, 0)
	both("a point", sp(75, 75), sp(0, 0), sp(0, 0), sp(0, 0), 10, 10, 0, 0)
	both("the other cell", sp(1, 2), sp(1, 2), sp(0, 0), sp(0, 0), 0, 0, 1, 1)
	c.Coils[0] = -1000
	both("a coil the other way", sp(-157, -75), sp(-10, 0), sp(0, 0), sp(0, 0), 10, 20, 0, 5)
	// an ampere of the shell is a radial field of -75,000 at the coil a, and of 75,000 at b
	c.Shells[0] = 4
	both("a shell", sp(0, 0), sp(-30, -30), sp(0, 0), sp(0, 0), 0, 0, 0, 0)
	c.Coils[0] = 1000
	both("a shell and cells", sp(75, 157), sp(30, 40), sp(0, 0), sp(0, 0), 10, 20, 0, 5)
	// a is below b: their radial fields at each other's place are 18,867 - 34,482 = -15,615 and 15,615 an ampere and turn
	c.Shells[0], c.Coils[1] = 0, 50
	both("coils", sp(0, 0), sp(78, 79), sp(0, 0), sp(-79, -78), 0, 0, 0, 0)
	c.Coils[1] = -50
	both("coils the other way", sp(0, 0), sp(-79, -78), sp(0, 0), sp(78, 79), 0, 0, 0, 0)
}

// 7.2: the box stands for the plasma, whatever that of the currents
func TestForcesOfABox(t *testing.T) {
	m, c := pair()
	c.Coils[0], c.Plasma = 1000, []int{7, 900000}
	gives(t, "Forces", [2]api.Span{sp(75, 157), sp(0, 10)}, [2]api.Span{})(control.Forces(m, c, box(10, 20, 0, 5)))
	gives(t, "Forces", [2]api.Span{}, [2]api.Span{})(control.Forces(m, c, box(0, 0, 0, 0)))
	// a box is valid for MaxAmp, whatever the sum
	gives(t, "Forces", [2]api.Span{sp(0, 8888900), sp(0, 1913900)}, [2]api.Span{})(control.Forces(m, c, box(0, api.MaxAmp, 0, api.MaxAmp)))
	for _, x := range [][]api.Span{nil, box(0, 1), box(0, 1, 0, 1, 0, 1), box(0, 1, -1, 1), box(0, 1, 1, 0), box(0, 1, 0, api.MaxAmp+1)} {
		none[[2]api.Span](t, "Forces", api.ErrInvalid)(control.Forces(m, c, x))
	}
	none[[2]api.Span](t, "Forces", api.ErrInvalid)(control.Forces(m, api.Currents{}, box(0, 1, 0, 1)))
	none[[2]api.Span](t, "Forces", api.ErrInvalid)(control.Forces(api.Machine{}, c, box(0, 1, 0, 1)))
	m.Coils, c.Coils = nil, nil
	gives[[2]api.Span](t, "Forces without coils")(control.Forces(m, c, box(0, 1, 0, 1)))
}

// 7.2: of any machine
func TestSomeForces(t *testing.T) {
	r := rand.New(rand.NewSource(3))
	cases := map[string]int{}
	for range 5000 {
		m, s := some(r, 3)
		x := someBox(r, s, 100000>>r.Intn(17))
		want := modelForces(m, s.C, x)
		gives(t, "Forces", want...)(control.Forces(m, s.C, x))
		for _, force := range want {
			for _, part := range force {
				switch {
				case part.Lo > 0 || part.Hi < 0:
					cases["a direction"]++
				case part.Lo < -1 && part.Hi > 1:
					cases["two directions"]++
				}
			}
		}
	}
	enough(t, cases, 1000, "a direction", "two directions")
}

// 7.2: forces are exact, however large
func TestForcesAreExact(t *testing.T) {
	for _, place := range []api.Point{{R: 1}, {R: -1}, {Z: 1}, {Z: -1}, {R: 1, Z: 1}, {R: 2, Z: -1}, {R: -8, Z: -8}} {
		for _, sign := range []int{1, -1} {
			m, c := great(place)
			for i := range m.Coils[1:] {
				c.Coils[i+1] *= sign
			}
			for i := range c.Shells {
				c.Shells[i] *= sign
			}
			x, _ := control.Whole(m, api.MaxAmp)
			gives(t, "Forces", modelForces(m, c, x)...)(control.Forces(m, c, x))
		}
	}
}

// P2: for all numbers that a box holds, the exact force lies in the span
func TestForcesAreSound(t *testing.T) {
	r := rand.New(rand.NewSource(4))
	for range 1500 {
		m, s := some(r, 2)
		x := someBox(r, s, []int{0, 1, 3}[r.Intn(3)])
		forces, _ := control.Forces(m, s.C, x)
		for _, j := range held(x) {
			s.C.Plasma = j
			for i, force := range forces {
				right, up, e := machine.Force(m, s.C, i)
				if e != api.OK || right < force[0].Lo || right > force[0].Hi || up < force[1].Lo || up > force[1].Hi {
					t.Errorf("the force of %v is %d, %d, %d, and that of %v %v", j, right, up, e, x, force)
				}
			}
		}
	}
}

// survives is a check for a state that outlives the loss of its plasma, or does not.
func survives(t *testing.T, m api.Machine, s api.State, b api.Safety, want bool) {
	t.Helper()
	is(t, "Survives", want)(control.Survives(m, s, b))
}

// 7.4
func TestSurvives(t *testing.T) {
	// the loss of the plasma induces its current in a shell at its place, and one ampere is lost
	m, s := lone()
	m, s = withShell(m, s, 3, 0, -1)
	survives(t, m, s, api.Safety{Shell: 40000}, true)
	survives(t, m, s, api.Safety{Shell: 39999}, false)
	s.C.Plasma[0], s.C.Shells[0] = 0, -500
	survives(t, m, s, api.Safety{Shell: 499}, true)
	survives(t, m, s, api.Safety{Shell: 498}, false)
	s.C.Shells[0] = 500
	survives(t, m, s, api.Safety{Shell: 498}, false)
	// the coil is then in the field of the shell: 3 for each of its amperes
	s.C.Plasma[0], s.C.Shells[0], s.C.Coils[0] = 40000, -1, 1000
	survives(t, m, s, api.Safety{Shell: 40000, Force: 3000}, true)
	survives(t, m, s, api.Safety{Shell: 40000, Force: 2999}, false)
	s.C.Coils[0] = -1000
	survives(t, m, s, api.Safety{Shell: 40000, Force: 3000}, true)
	survives(t, m, s, api.Safety{Shell: 40000, Force: 2999}, false)
	// without a plasma and shells there is no force, and while there was one does not matter
	m, s = lone()
	s.C.Coils[0] = 1000
	survives(t, m, s, api.Safety{}, true)
	// a trip does not matter, but that its coil goes to 0: the shell then has (76,923 * 1,000 + 250,000 * 40,000) / 250,000
	m, s = withShell(m, s, 3, 0, -1)
	survives(t, m, s, api.Safety{Shell: 40307, Force: 2999}, false)
	s.Tripped[0], s.Heat[0] = true, api.MaxValue
	survives(t, m, s, api.Safety{Shell: 40307}, true)
	survives(t, m, s, api.Safety{Shell: 40306}, false)
}

// 7.4: the exact force is rounded down, and both of its parts count
func TestSurvivesByExactForces(t *testing.T) {
	m, s := lone()
	s.C.Plasma[0] = 0
	m, s = withShell(m, s, 3, 0, 2)
	for current, least := range map[int]int{1: 0, -1: 1, 0: 0, 2000: 0, -2000: 1} {
		s.C.Coils[0] = current
		survives(t, m, s, api.Safety{Shell: 1, Force: least}, true)
		if least > 0 {
			survives(t, m, s, api.Safety{Shell: 1, Force: least - 1}, false)
		}
	}
	// the shell at (0, 3), which has 40,000 then, has a radial field of -75,000 an ampere at the coil
	m, s = lone()
	s.C.Plasma[0], s.C.Coils[0] = 0, 1000
	m, s = withShell(m, s, 0, 3, 40041)
	survives(t, m, s, api.Safety{Shell: 40000, Force: 3000}, true)
	survives(t, m, s, api.Safety{Shell: 40000, Force: 2999}, false)
	s.C.Coils[0] = -1000
	survives(t, m, s, api.Safety{Shell: 40000, Force: 3000}, true)
	survives(t, m, s, api.Safety{Shell: 40000, Force: 2999}, false)
}

// 7.4, of any state
func TestSomeSurvive(t *testing.T) {
	r := rand.New(rand.NewSource(5))
	cases := map[bool]int{}
	for range 4000 {
		m, s := some(r, 2)
		b := tight(r, m, s, make([]int, len(m.Coils)), make([]api.Span, len(s.C.Plasma)))
		after, _ := circuit.Quench(m, s)
		want := true
		for _, n := range after.C.Shells {
			want = want && n <= b.Shell && -n <= b.Shell
		}
		for i := range m.Coils {
			right, up, _ := machine.Force(m, after.C, i)
			want = want && right <= b.Force && -right <= b.Force && up <= b.Force && -up <= b.Force
		}
		cases[want]++
		survives(t, m, s, b, want)
	}
	if cases[true] < 500 || cases[false] < 500 {
		t.Errorf("too few cases: %v", cases)
	}
}

// 7.4: with an error, nothing survives
func TestSurvivesOfNoState(t *testing.T) {
	m, s := lone()
	fails[bool](t, "Survives", api.ErrInvalid)(control.Survives(api.Machine{}, s, loose()))
	fails[bool](t, "Survives", api.ErrInvalid)(control.Survives(m, api.State{}, loose()))
	fails[bool](t, "Survives", api.ErrInvalid)(control.Survives(m, s, api.Safety{Shell: -1}))
	fails[bool](t, "Survives", api.ErrInvalid)(control.Survives(m, s, api.Safety{Force: -1}))
	s.Tick = lastTick
	fails[bool](t, "Survives", api.ErrRange)(control.Survives(m, s, loose()))
	fails[bool](t, "Survives", api.ErrInvalid)(control.Survives(m, s, api.Safety{Shell: -1}))
}

// 7.4
func TestWhole(t *testing.T) {
	m, _ := pair()
	gives(t, "Whole", sp(0, 70), sp(0, 70))(control.Whole(m, 70))
	gives(t, "Whole", sp(0, 1), sp(0, 1))(control.Whole(m, 1))
	gives(t, "Whole", sp(0, api.MaxAmp), sp(0, api.MaxAmp))(control.Whole(m, api.MaxAmp))
	for _, total := range append([]int{0, -1, api.MaxAmp + 1}, wild...) {
		none[api.Span](t, "Whole", api.ErrRange)(control.Whole(m, total))
		none[api.Span](t, "Whole", api.ErrInvalid)(control.Whole(api.Machine{}, total))
	}
	none[api.Span](t, "Whole", api.ErrInvalid)(control.Whole(api.Machine{}, 70))
	m, _ = great(api.Point{})
	if x, e := control.Whole(m, 5); e != api.OK || len(x) != 64 || x[63] != sp(0, 5) {
		t.Errorf("Whole = %v, %d", x, e)
	}
}

// 7.4
func TestFixed(t *testing.T) {
	m, c := pair()
	gives(t, "Fixed", sp(0, 0), sp(0, 0))(control.Fixed(m, c))
	c.Plasma = []int{7, api.MaxAmp - 7}
	gives(t, "Fixed", sp(7, 7), sp(api.MaxAmp-7, api.MaxAmp-7))(control.Fixed(m, c))
	c.Plasma[0] = 8
	none[api.Span](t, "Fixed", api.ErrInvalid)(control.Fixed(m, c))
	c.Plasma = []int{7}
	none[api.Span](t, "Fixed", api.ErrInvalid)(control.Fixed(m, c))
	c.Plasma, c.Coils = []int{7, 8}, nil
	none[api.Span](t, "Fixed", api.ErrInvalid)(control.Fixed(m, c))
	none[api.Span](t, "Fixed", api.ErrInvalid)(control.Fixed(api.Machine{}, api.Currents{}))
}
