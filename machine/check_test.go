package machine_test

import (
	"math"
	"math/rand"
	"strings"
	"testing"

	"shotdesk/api"
	"shotdesk/machine"
)

// 2.1
func TestName(t *testing.T) {
	for _, s := range []string{"a", "z", "tok_1", "a_", "a0", "a9", "a__", "abcdefghijklmnop", "a123456789012345"} {
		if !machine.Name(s) {
			t.Errorf("%q is a name", s)
		}
	}
	for _, s := range append(badNames(), strings.Repeat("a", 17), strings.Repeat("a", 100000)) {
		if machine.Name(s) {
			t.Errorf("%q is no name", s[:min(len(s), 30)])
		}
	}
	for b := range 256 {
		first, later := machine.Name(string([]byte{byte(b)})), machine.Name(string([]byte{'a', byte(b)}))
		letter := b >= 'a' && b <= 'z'
		if first != letter || later != (letter || b >= '0' && b <= '9' || b == '_') {
			t.Errorf("byte %d in a name: %t, %t", b, first, later)
		}
	}
}

// 2.1
func TestCheck(t *testing.T) {
	for what, m := range map[string]api.Machine{"small": small(), "bare": bare(), "most": most(), "least": least()} {
		if e := machine.Check(m); e != api.OK {
			t.Errorf("Check of the machine %s = %d", what, e)
		}
	}
	for _, f := range flaws() {
		if e := machine.Check(f.m); e != f.e {
			t.Errorf("Check, %s = %d, want %d", f.what, e, f.e)
		}
	}
	r := rand.New(rand.NewSource(1))
	for range 300 {
		if m, _ := some(r); machine.Check(m) != api.OK {
			t.Errorf("Check of %v = %d", m, machine.Check(m))
		}
	}
}

// 2.1: only limiter points must be at places of their own
func TestCheckEqualPlaces(t *testing.T) {
	m := with(func(m *api.Machine) {
		m.Coils[0].R, m.Coils[0].Z = m.Coils[1].R, m.Coils[1].Z
		m.Shells[0], m.Sensors[0].R, m.Sensors[0].Z = m.Shells[1], m.Sensors[1].R, m.Sensors[1].Z
		m.Limits[0], m.Limits[1] = pt(10, -2), pt(3, 9)
		m.Sensors[0].Name = m.Coils[0].Name
	})
	if e := machine.Check(m); e != api.OK {
		t.Errorf("Check = %d", e)
	}
	for _, p := range []api.Point{pt(8, -1), pt(18, 1)} {
		if e := machine.Check(with(func(m *api.Machine) { m.Limits[1] = p })); e != api.OK {
			t.Errorf("Check with limits at 8, 1 and at %v = %d", p, e)
		}
	}
}

// 2.1: the grid's ends
func TestCheckGrid(t *testing.T) {
	for _, g := range []api.Grid{
		{R: -60, Z: -60, NR: 8, NZ: 8, Step: 10}, {R: -10, Z: -10, NR: 8, NZ: 8, Step: 10}, {R: 60, Z: 60, NR: 1, NZ: 1, Step: 10},
		{R: 53, Z: -60, NR: 8, NZ: 1, Step: 1}, {R: 60, Z: 53, NR: 1, NZ: 8, Step: 1}, {R: 56, Z: 59, NR: 3, NZ: 2, Step: 2},
	} {
		m := bare()
		m.Grid = g
		want := api.OK
		if g == (api.Grid{R: 56, Z: 59, NR: 3, NZ: 2, Step: 2}) {
			want = api.ErrRange
		}
		if e := machine.Check(m); e != want {
			t.Errorf("Check of the grid %v = %d, want %d", g, e, want)
		}
	}
}

// 2.1, R2: the parts are checked in order, the items of a list too, and each of an item's errors
func TestCheckFirstError(t *testing.T) {
	steps := []struct {
		e      api.Errno
		change func(m *api.Machine)
	}{
		// from the last error to the first, so that each change's error comes before those already there
		{api.ErrRange, func(m *api.Machine) { m.Sensors[1].Error = -1 }},
		{api.ErrDuplicate, func(m *api.Machine) { m.Sensors[1].Name = "a" }},
		{api.ErrRange, func(m *api.Machine) { m.Sensors[0].Kind = 4 }},
		{api.ErrInvalid, func(m *api.Machine) { m.Sensors[0].Name = "A" }},
		{api.ErrLimit, func(m *api.Machine) { m.Sensors = append(m.Sensors, most().Sensors...) }},
		{api.ErrRange, func(m *api.Machine) { m.Grid.Step = 0 }},
		{api.ErrDuplicate, func(m *api.Machine) { m.Limits[1] = m.Limits[0] }},
		{api.ErrRange, func(m *api.Machine) { m.Limits[0].R, m.Limits[1].R = 61, 61 }},
		{api.ErrLimit, func(m *api.Machine) { m.Limits = append(m.Limits, most().Limits...) }},
		{api.ErrNone, func(m *api.Machine) { m.Limits = nil }},
		{api.ErrRange, func(m *api.Machine) { m.Shells[1].Loss = 0 }},
		{api.ErrLimit, func(m *api.Machine) { m.Shells = append(m.Shells, most().Shells...) }},
		{api.ErrRange, func(m *api.Machine) { m.Coils[1].Cool = -1 }},
		{api.ErrDuplicate, func(m *api.Machine) { m.Coils[1].Name = "up" }},
		{api.ErrRange, func(m *api.Machine) { m.Coils[0].Turns = 0 }},
		{api.ErrInvalid, func(m *api.Machine) { m.Coils[0].Name, m.Coils[1].Name = "?", "?" }},
		{api.ErrLimit, func(m *api.Machine) { m.Coils = append(m.Coils, most().Coils...) }},
		{api.ErrInvalid, func(m *api.Machine) { m.Name = "" }},
	}
	m := small()
	for i, s := range steps {
		s.change(&m)
		if e := machine.Check(m); e != s.e {
			t.Errorf("Check after the change %d = %d, want %d", i, e, s.e)
		}
	}
}

// 2.1, Examples
func TestCells(t *testing.T) {
	m := bare()
	m.Grid = api.Grid{R: 10, Z: -2, NR: 3, NZ: 2, Step: 2}
	want := []api.Point{pt(10, -2), pt(12, -2), pt(14, -2), pt(10, 0), pt(12, 0), pt(14, 0)}
	if n := machine.Cells(m); n != 6 {
		t.Errorf("Cells = %d", n)
	}
	for i, p := range want {
		if q, e := machine.Cell(m, i); q != p || e != api.OK {
			t.Errorf("Cell %d = %v, %d, want %v", i, q, e, p)
		}
		if n := machine.CellAt(m, p); n != i {
			t.Errorf("CellAt %v = %d, want %d", p, n, i)
		}
	}
	for _, i := range append([]int{-1, 6, 7}, wild...) {
		if p, e := machine.Cell(m, i); p != (api.Point{}) || e != api.ErrRange {
			t.Errorf("Cell %d = %v, %d", i, p, e)
		}
	}
	if n := machine.Cells(most()); n != 64 {
		t.Errorf("Cells = %d", n)
	}
}

// 2.1
func TestCellAtNoCell(t *testing.T) {
	m := small()
	count := 0
	for r := -70; r <= 70; r++ {
		for z := -70; z <= 70; z++ {
			i := machine.CellAt(m, pt(r, z))
			if i == -1 {
				continue
			}
			count++
			if p, e := machine.Cell(m, i); p != pt(r, z) || e != api.OK {
				t.Errorf("Cell %d = %v, %d, want %d, %d", i, p, e, r, z)
			}
		}
	}
	if count != 12 {
		t.Errorf("%d places have a cell", count)
	}
	for _, n := range wild {
		for _, p := range []api.Point{pt(n, -2), pt(10, n), pt(n, n), pt(n, math.MaxInt)} {
			if i := machine.CellAt(m, p); i != -1 {
				t.Errorf("CellAt %v = %d", p, i)
			}
		}
	}
}

// 2.1
func TestCoilAndSensor(t *testing.T) {
	m := small()
	m.Sensors[0].Name = "up"
	for name, want := range map[string][2]int{
		"up": {0, 0}, "down": {1, -1}, "b2": {-1, 1}, "": {-1, -1}, "u": {-1, -1}, "upp": {-1, -1}, "UP": {-1, -1}, "tok_1": {-1, -1}, "flux": {-1, -1},
	} {
		if c, s := machine.Coil(m, name), machine.Sensor(m, name); c != want[0] || s != want[1] {
			t.Errorf("%q: coil %d, sensor %d, want %v", name, c, s, want)
		}
	}
	if machine.Coil(bare(), "up") != -1 || machine.Sensor(bare(), "up") != -1 {
		t.Error("a machine without coils and sensors has one")
	}
}

// 2.1: machines that are not valid
func TestFindInvalid(t *testing.T) {
	for _, f := range flaws() {
		if n := machine.Cells(f.m); n != 0 {
			t.Errorf("%s: Cells = %d", f.what, n)
		}
		for _, i := range []int{0, -1} {
			if p, e := machine.Cell(f.m, i); p != (api.Point{}) || e != api.ErrInvalid {
				t.Errorf("%s: Cell = %v, %d", f.what, p, e)
			}
		}
		if machine.CellAt(f.m, pt(10, -2)) != -1 || machine.Coil(f.m, "up") != -1 || machine.Sensor(f.m, "a") != -1 {
			t.Errorf("%s: something is found", f.what)
		}
	}
}
