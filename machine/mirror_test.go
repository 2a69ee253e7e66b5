package machine_test

import (
	"math/rand"
	"reflect"
	"slices"
	"testing"

	"shotdesk/api"
	"shotdesk/machine"
)

// 2.4
func TestMirror(t *testing.T) {
	m, c, e := machine.Mirror(small(), filled())
	want := api.Machine{
		Name: "tok_1",
		Coils: []api.Coil{
			{Name: "up", R: 3, Z: -9, Turns: 4, MaxCurrent: 5000, MaxStep: 700, MaxHeat: 60000, Cool: 80},
			{Name: "down", R: 5, Z: 8, Turns: 6, MaxCurrent: 4000, MaxStep: 900, MaxHeat: 50000, Cool: 70},
		},
		Shells:  []api.Shell{{R: 1, Z: -2, Self: 300, Loss: 40}, {R: 17, Z: 3, Self: 500, Loss: 60}},
		Limits:  []api.Point{pt(8, -1), pt(18, 1)},
		Grid:    api.Grid{R: 10, Z: -4, NR: 3, NZ: 4, Step: 2}, // the rows were at -2, 0, 2 and 4
		Sensors: []api.Sensor{{Name: "a", Kind: api.SFlux, R: 7, Z: -5, Error: 10}, {Name: "b2", Kind: api.SVertical, R: 20, Z: 6}},
	}
	currents := api.Currents{
		Coils:  []int{1000, -2000},
		Shells: []int{30, -50},
		Plasma: []int{19, 23, 29, 11, 13, 17, 3, 5, 7, 0, 1, 2},
	}
	if !reflect.DeepEqual(m, want) || !reflect.DeepEqual(c, currents) || e != api.OK {
		t.Errorf("Mirror = %v, %v, %d", m, c, e)
	}
	if m, c, e := machine.Mirror(bare(), api.Currents{Plasma: []int{5}}); !same(m, bare()) || !slices.Equal(c.Plasma, []int{5}) || e != api.OK {
		t.Errorf("Mirror = %v, %v, %d", m, c, e)
	}
}

// same reports whether two machines are, where nil and empty lists are the same.
func same(a, b api.Machine) bool {
	return a.Name == b.Name && a.Grid == b.Grid && slices.Equal(a.Coils, b.Coils) && slices.Equal(a.Shells, b.Shells) &&
		slices.Equal(a.Limits, b.Limits) && slices.Equal(a.Sensors, b.Sensors)
}

func sameCurrents(a, b api.Currents) bool {
	return slices.Equal(a.Coils, b.Coils) && slices.Equal(a.Shells, b.Shells) && slices.Equal(a.Plasma, b.Plasma)
}

// P2.3
func TestMirrorTwice(t *testing.T) {
	r := rand.New(rand.NewSource(5))
	for range 200 {
		m, c := some(r)
		m2, c2, e := machine.Mirror(m, c)
		m3, c3, f := machine.Mirror(m2, c2)
		if e != api.OK || f != api.OK || !same(m, m3) || !sameCurrents(c, c3) {
			t.Errorf("%v, %v mirrored twice is %v, %v, %d, %d", m, c, m3, c3, e, f)
		}
		if machine.Check(m2) != api.OK || !machine.ValidCurrents(m2, c2) {
			t.Errorf("the mirrored machine %v is not valid", m2)
		}
	}
}

// P2.3
func TestMirroredFields(t *testing.T) {
	r := rand.New(rand.NewSource(6))
	for range 200 {
		m, c := some(r)
		m2, c2, _ := machine.Mirror(m, c)
		p := pt(r.Intn(201)-100, r.Intn(201)-100)
		q := pt(p.R, -p.Z)
		flux, e := machine.Flux(m, c, p)
		flux2, e2 := machine.Flux(m2, c2, q)
		if flux != flux2 || e != api.OK || e2 != api.OK {
			t.Errorf("the flux %d at %v is %d when mirrored", flux, p, flux2)
		}
		radial, vertical, e := machine.Field(m, c, p)
		radial2, vertical2, e2 := machine.Field(m2, c2, q)
		if radial != -radial2 || vertical != vertical2 || e != api.OK || e2 != api.OK {
			t.Errorf("the fields %d, %d at %v are %d, %d when mirrored", radial, vertical, p, radial2, vertical2)
		}
	}
}
