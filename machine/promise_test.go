package machine_test

import (
	"math/rand"
	"reflect"
	"strings"
	"testing"

	"shotdesk/api"
	"shotdesk/machine"
)

// add returns the sums of two machines' currents.
func add(a, b api.Currents) api.Currents {
	sum := func(a, b []int) []int {
		l := make([]int, len(a))
		for i := range l {
			l[i] = a[i] + b[i]
		}
		return l
	}
	return api.Currents{Coils: sum(a.Coils, b.Coils), Shells: sum(a.Shells, b.Shells), Plasma: sum(a.Plasma, b.Plasma)}
}

// P2.2, P4
func TestLinear(t *testing.T) {
	r := rand.New(rand.NewSource(8))
	for range 200 {
		m, _ := some(r)
		a, b := someCurrents(r, m, api.MaxAmp/2), someCurrents(r, m, api.MaxAmp/2)
		both := add(a, b)
		p := pt(r.Intn(201)-100, r.Intn(201)-100)
		fa, _ := machine.Flux(m, a, p)
		fb, _ := machine.Flux(m, b, p)
		if f, e := machine.Flux(m, both, p); f != fa+fb || e != api.OK {
			t.Errorf("the flux %d, %d is not the sum of %d and %d", f, e, fa, fb)
		}
		ra, va, _ := machine.Field(m, a, p)
		rb, vb, _ := machine.Field(m, b, p)
		if radial, vertical, e := machine.Field(m, both, p); radial != ra+rb || vertical != va+vb || e != api.OK {
			t.Errorf("the fields %d, %d, %d are not the sums", radial, vertical, e)
		}
		la, _ := machine.Linked(m, a)
		lb, _ := machine.Linked(m, b)
		if l, e := machine.Linked(m, both); l != la+lb || e != api.OK {
			t.Errorf("the linked flux %d, %d is not the sum of %d and %d", l, e, la, lb)
		}
	}
}

// P2.4
func TestPaths(t *testing.T) {
	r := rand.New(rand.NewSource(9))
	for range 30 {
		m, c := some(r)
		p := pt(r.Intn(121)-60, r.Intn(121)-60)
		sum, _ := machine.Flux(m, c, p)
		for range 80 {
			next := []api.Point{pt(p.R-1, p.Z), pt(p.R+1, p.Z), pt(p.R, p.Z-1), pt(p.R, p.Z+1)}[r.Intn(4)]
			if max(next.R, -next.R, next.Z, -next.Z) > 100 {
				continue
			}
			here, _ := machine.Flux(m, c, p)
			there, _ := machine.Flux(m, c, next)
			sum += there - here
			p = next
		}
		if last, e := machine.Flux(m, c, p); last != sum || e != api.OK {
			t.Errorf("the flux at %v is %d, %d, the sum of the differences %d", p, last, e, sum)
		}
	}
}

// P2.4: the fields are such differences, over two steps
func TestFieldsAreDifferences(t *testing.T) {
	r := rand.New(rand.NewSource(13))
	for range 100 {
		m, c := some(r)
		p := pt(r.Intn(199)-99, r.Intn(199)-99)
		below, _ := machine.Flux(m, c, pt(p.R, p.Z-1))
		above, _ := machine.Flux(m, c, pt(p.R, p.Z+1))
		inner, _ := machine.Flux(m, c, pt(p.R-1, p.Z))
		outer, _ := machine.Flux(m, c, pt(p.R+1, p.Z))
		if radial, vertical, e := machine.Field(m, c, p); radial != below-above || vertical != outer-inner || e != api.OK {
			t.Errorf("Field at %v = %d, %d, %d", p, radial, vertical, e)
		}
	}
}

// P2.5
func TestAloneNoForce(t *testing.T) {
	r := rand.New(rand.NewSource(10))
	machines := []api.Machine{small(), most(), least()}
	for range 50 {
		m, _ := some(r)
		machines = append(machines, m)
	}
	for _, m := range machines {
		for i := range m.Coils {
			for _, n := range []int{0, 1, -1, api.MaxAmp, -api.MaxAmp, 12345} {
				c := machine.Quiet(m)
				c.Coils[i] = n
				if r, z, e := machine.Force(m, c, i); r != 0 || z != 0 || e != api.OK {
					t.Errorf("Force on the coil %d alone with %d = %d, %d, %d", i, n, r, z, e)
				}
			}
		}
	}
}

// outcome calls everything and returns all results, with new lists in each.
func outcome(m api.Machine, c api.Currents, p api.Point, i int, s string) []any {
	var l []any
	add := func(results ...any) { l = append(l, results...) }
	add(machine.Name(s), machine.Check(m), machine.Cells(m), machine.CellAt(m, p), machine.Coil(m, s), machine.Sensor(m, s))
	add(machine.Influence(p, pt(i, i)), machine.Kernel(m), machine.Quiet(m), machine.ValidCurrents(m, c), machine.Total(c), machine.Format(m))
	place, e := machine.Cell(m, i)
	add(place, e)
	flux, e := machine.Flux(m, c, p)
	add(flux, e)
	radial, vertical, e := machine.Field(m, c, p)
	add(radial, vertical, e)
	fr, fz, e := machine.Force(m, c, i)
	add(fr, fz, e)
	exact, e := machine.Exact(m, c, i)
	add(exact, e)
	linked, e := machine.Linked(m, c)
	add(linked, e)
	mirrored, currents, e := machine.Mirror(m, c)
	add(mirrored, currents, e)
	parsed, line, e := machine.Parse(s)
	add(parsed, line, e)
	return l
}

// anyInt is a number that may be anything, and is often near to what counts.
func anyInt(r *rand.Rand) int {
	switch r.Intn(4) {
	case 0:
		return wild[r.Intn(len(wild))]
	case 1:
		return int(r.Uint64())
	case 2:
		return r.Intn(300) - 150
	default:
		return r.Intn(5) - 1
	}
}

func anyList(r *rand.Rand) []int {
	l := make([]int, r.Intn(20))
	for i := range l {
		l[i] = anyInt(r)
	}
	return l
}

func anyText(r *rand.Rand) string {
	words := []string{"machine", "coil", "shell", "limit", "grid", "sensor", "flux", "a", "0", "1", "-3", " ", " ", " ", "\n", "\n", "\x00", "\xff", smallText}
	var b strings.Builder
	for range r.Intn(30) {
		b.WriteString(words[r.Intn(len(words))])
	}
	return b.String()
}

// numbers are all numbers of a machine.
func numbers(m *api.Machine) []*int {
	l := []*int{&m.Grid.R, &m.Grid.Z, &m.Grid.NR, &m.Grid.NZ, &m.Grid.Step}
	for i := range m.Coils {
		c := &m.Coils[i]
		l = append(l, &c.R, &c.Z, &c.Turns, &c.MaxCurrent, &c.MaxStep, &c.MaxHeat, &c.Cool)
	}
	for i := range m.Shells {
		s := &m.Shells[i]
		l = append(l, &s.R, &s.Z, &s.Self, &s.Loss)
	}
	for i := range m.Limits {
		l = append(l, &m.Limits[i].R, &m.Limits[i].Z)
	}
	for i := range m.Sensors {
		s := &m.Sensors[i]
		l = append(l, &s.Kind, &s.R, &s.Z, &s.Error)
	}
	return l
}

// spoiled returns a machine in which some numbers are anything.
func spoiled(r *rand.Rand) api.Machine {
	m, _ := some(r)
	l := numbers(&m)
	for range r.Intn(3) {
		*l[r.Intn(len(l))] = anyInt(r)
	}
	return m
}

// R1, P2.1: no call panics
func TestAnyArguments(t *testing.T) {
	r := rand.New(rand.NewSource(11))
	for range 3000 {
		m := spoiled(r)
		c := api.Currents{Coils: anyList(r), Shells: anyList(r), Plasma: anyList(r)}
		if r.Intn(2) == 0 {
			c = machine.Quiet(m)
		}
		outcome(m, c, pt(anyInt(r), anyInt(r)), anyInt(r), anyText(r))
	}
	outcome(api.Machine{}, api.Currents{}, api.Point{}, 0, "")
}

// room gives a list spare capacity, with something in it.
func room[T any](list []T, spare T) []T {
	return append(append(make([]T, 0, len(list)+2), list...), spare, spare)[:len(list)]
}

func roomy(m api.Machine, c api.Currents) (api.Machine, api.Currents) {
	m.Coils, m.Shells = room(m.Coils, api.Coil{Name: "spare"}), room(m.Shells, api.Shell{R: 99})
	m.Limits, m.Sensors = room(m.Limits, pt(99, 99)), room(m.Sensors, api.Sensor{Name: "spare"})
	return m, api.Currents{Coils: room(c.Coils, 99), Shells: room(c.Shells, 99), Plasma: room(c.Plasma, 99)}
}

// whole returns lists with their spare capacity.
func whole(m api.Machine, c api.Currents) []any {
	return []any{
		m.Name, m.Grid, full(m.Coils), full(m.Shells), full(m.Limits), full(m.Sensors), full(c.Coils), full(c.Shells), full(c.Plasma),
	}
}

func full[T any](list []T) []T { return list[:cap(list)] }

// spoil overwrites the lists of a result, also in their spare capacity.
func spoil(result any) {
	switch x := result.(type) {
	case [][]int:
		for _, row := range full(x) {
			overwrite(row, -7)
		}
		overwrite(x, nil)
	case api.Currents:
		overwrite(x.Coils, -7)
		overwrite(x.Shells, -7)
		overwrite(x.Plasma, -7)
	case api.Machine:
		overwrite(x.Coils, api.Coil{Name: "spoiled"})
		overwrite(x.Shells, api.Shell{R: -7})
		overwrite(x.Limits, pt(-7, -7))
		overwrite(x.Sensors, api.Sensor{Name: "spoiled"})
	}
}

func overwrite[T any](list []T, by T) {
	for i := range full(list) {
		full(list)[i] = by
	}
}

// R4, R7, P2.1: arguments stay as they are, results are new memory, and a call again gives the same
func TestNewMemory(t *testing.T) {
	r := rand.New(rand.NewSource(12))
	for range 50 {
		m, c := roomy(some(r))
		m2, c2 := roomy(m, c)
		s := machine.Format(m)
		p, i := pt(r.Intn(100), r.Intn(100)), r.Intn(5)
		first, again := outcome(m, c, p, i, s), outcome(m, c, p, i, s)
		if !reflect.DeepEqual(first, again) {
			t.Errorf("a call again gives %v, not %v", again, first)
		}
		for _, result := range again {
			spoil(result)
		}
		if !reflect.DeepEqual(whole(m, c), whole(m2, c2)) {
			t.Errorf("a call has changed %v, %v to %v, %v", m2, c2, m, c)
		}
		if third := outcome(m, c, p, i, s); !reflect.DeepEqual(first, third) {
			t.Errorf("after the results were overwritten, a call gives %v, not %v", third, first)
		}
	}
}

// R4: no two lists of a result share memory
func TestListsApart(t *testing.T) {
	k := machine.Kernel(small())
	for i := range k {
		overwrite(k[i], i)
	}
	for i, row := range k {
		for _, n := range row {
			if n != i {
				t.Fatalf("the lists of Kernel share memory: %v", k)
			}
		}
	}
	_, mirrored, _ := machine.Mirror(small(), filled())
	for _, c := range []api.Currents{machine.Quiet(small()), mirrored} {
		overwrite(c.Coils, 1)
		overwrite(c.Shells, 2)
		overwrite(c.Plasma, 3)
		if c.Coils[0] != 1 || c.Shells[0] != 2 || c.Shells[1] != 2 || c.Plasma[0] != 3 {
			t.Errorf("the lists share memory: %v", c)
		}
	}
}
