package equil_test

import (
	"math"
	"math/big"
	"math/rand"
	"reflect"
	"slices"
	"testing"

	"shotdesk/api"
	"shotdesk/equil"
	"shotdesk/machine"
)

// few returns a random machine with up to three cells, and a total up to 40.
func few(r *rand.Rand) (api.Machine, api.Currents, int) {
	m, c, total := some(r, 3, 40)
	m.Grid.NR, m.Grid.NZ = 1+r.Intn(3), 1
	if r.Intn(2) == 0 {
		m.Grid.NR, m.Grid.NZ = m.Grid.NZ, m.Grid.NR
	}
	c.Plasma = make([]int, m.Grid.NR*m.Grid.NZ)
	return m, c, total
}

// P5.2, P2: what is told of a box holds for all numbers in it
func TestSoundness(t *testing.T) {
	r := rand.New(rand.NewSource(11))
	for range 300 {
		m, c, total := few(r)
		x := model{m, c, total}
		b := someBox(r, someNumbers(r, len(c.Plasma), total), total, 4)
		p := api.Point{R: r.Intn(201) - 100, Z: r.Intn(201) - 100}
		flux, _ := equil.Fluxes(m, c, b, []api.Point{p})
		edge, _ := equil.Boundary(m, c, b)
		image, e := equil.ImageBox(m, c, total, b)
		sides, _ := equil.Sides(m, c, b)
		for _, j := range held(b) {
			if n := x.flux(p, j); n < flux[0].Lo || n > flux[0].Hi {
				t.Errorf("the flux %d of %v is not in %v", n, j, flux[0])
			}
			at := x.boundary(dots(j...))
			if at.Lo < edge.Lo || at.Hi > edge.Hi {
				t.Errorf("the boundary flux %v of %v is not in %v", at, j, edge)
			}
			checkImage(t, x, j, image, e)
			for i, a := range x.excesses(dots(j...)) {
				if sides[i] == api.Yes && a.Lo == 0 || sides[i] == api.No && a.Hi > 0 {
					t.Errorf("the cell %d of %v has the excess %v and is %d", i, j, a, sides[i])
				}
			}
		}
	}
}

// checkImage holds the image of numbers against that of a box that holds them.
func checkImage(t *testing.T, x model, j []int, image []api.Span, e api.Errno) {
	t.Helper()
	exact, ok := x.exact(j)
	if e != api.OK {
		return
	}
	if !ok {
		t.Errorf("%v has no image in a box with one", j)
		return
	}
	for i, a := range exact {
		if a.Cmp(big.NewRat(int64(image[i].Lo), 1)) < 0 || a.Cmp(big.NewRat(int64(image[i].Hi), 1)) > 0 {
			t.Errorf("the image %v of %v is not in %v", exact, j, image)
		}
	}
	own, _ := equil.Image(x.m, x.c, x.total, j)
	if !inside(own, image) {
		t.Errorf("Image of %v = %v is not in %v", j, own, image)
	}
}

// P5.3, P6: a found box is proved, and all numbers in it have their images in it
func TestProof(t *testing.T) {
	r := rand.New(rand.NewSource(12))
	found := 0
	for found < 150 {
		m, c, total := few(r)
		b, e := equil.Find(m, c, total)
		if e != api.OK {
			continue
		}
		found++
		if !equil.ValidBox(m, total, b) || !equil.Judge(m, c, total, b) {
			t.Errorf("Find = %v is not proved", b)
		}
		for n := range 4 {
			narrow, e := equil.Narrow(m, c, total, b, n)
			if e != api.OK || !equil.Judge(m, c, total, narrow) || !inside(narrow, b) {
				t.Errorf("Narrow of %v = %v, %d", b, narrow, e)
			}
		}
		list := held(b)
		for range min(len(list), 300) {
			j := list[r.Intn(len(list))]
			if image, e := equil.Image(m, c, total, j); e != api.OK || !inside(image, b) {
				t.Errorf("Image of %v in %v = %v, %d", j, b, image, e)
			}
		}
	}
}

// boxes returns all boxes of two cells that are valid for a total.
func boxes(total int) [][]api.Span {
	var list [][]api.Span
	for a := range total + 1 {
		for b := a; b <= total; b++ {
			for c := range total + 1 {
				for d := c; d <= total; d++ {
					list = append(list, box(a, b, c, d))
				}
			}
		}
	}
	return list
}

// lit returns some currents of the pair, with which it has equilibria of all kinds.
func lit() []api.Currents {
	var list []api.Currents
	for _, n := range [][2]int{{0, 0}, {4, 0}, {1, 3}, {-1, 7}, {0, -9}} {
		list = append(list, api.Currents{Coils: n[:1], Shells: n[1:], Plasma: []int{0, 0}})
	}
	return list
}

// own returns the whole numbers that are their own image.
func own(m api.Machine, c api.Currents, total int) [][]int {
	all := slices.Repeat(box(0, total), len(c.Plasma))
	return slices.DeleteFunc(held(all), func(j []int) bool {
		image, e := equil.Image(m, c, total, j)
		return e != api.OK || !slices.Equal(image, dots(j...))
	})
}

// checkStay tells whether a box misses a cell, and that then it holds none of the equilibria, and otherwise drops none.
func checkStay(t *testing.T, m api.Machine, c api.Currents, total int, b []api.Span, equilibria [][]int) bool {
	t.Helper()
	cell, e := equil.Misses(m, c, total, b)
	narrow, f := equil.Narrow(m, c, total, b, 3)
	missed := e == api.OK && cell >= 0
	for _, j := range equilibria {
		if !equil.Holds(b, j) || e != api.OK {
			continue
		}
		if missed {
			t.Errorf("%v is an equilibrium in %v, of which the cell %d misses", j, b, cell)
		}
		if f != api.OK || !equil.Holds(narrow, j) {
			t.Errorf("Narrow of %v = %v, %d drops %v", b, narrow, f, j)
		}
	}
	return missed
}

// P5.3, P5.5, P6: what is dropped or missed is no equilibrium
func TestExclusion(t *testing.T) {
	m, _ := pair()
	const total = 8
	found, misses := 0, 0
	for _, c := range lit() {
		equilibria := own(m, c, total)
		found += len(equilibria)
		for _, b := range boxes(total) {
			if checkStay(t, m, c, total, b, equilibria) {
				misses++
			}
		}
	}
	if found < 5 || misses < 1000 {
		t.Errorf("too few cases: %d equilibria, %d misses", found, misses)
	}
}

// P5.3, P5.5, P6
func TestExclusionOfSome(t *testing.T) {
	r := rand.New(rand.NewSource(19))
	found := 0
	for range 150 {
		m, c, total := few(r)
		total = min(total, 9)
		equilibria := own(m, c, total)
		found += len(equilibria)
		for _, j := range equilibria {
			for range 20 {
				checkStay(t, m, c, total, someBox(r, j, total, total), equilibria)
			}
		}
	}
	if found < 100 {
		t.Errorf("too few cases: %d", found)
	}
}

// P5.5: the halves hold together what the box holds
func TestHalves(t *testing.T) {
	m, _ := pair()
	const total = 6
	all := held(box(0, total, 0, total))
	for _, b := range boxes(total) {
		for cell := range 2 {
			low, high, e := equil.Split(m, total, b, cell)
			if e != api.OK || !equil.ValidBox(m, total, low) || !equil.ValidBox(m, total, high) {
				t.Fatalf("Split of %v = %v, %v, %d", b, low, high, e)
			}
			for _, j := range all {
				if equil.Holds(b, j) != (equil.Holds(low, j) || equil.Holds(high, j)) {
					t.Errorf("Split of %v = %v, %v at %v", b, low, high, j)
				}
			}
		}
	}
}

// P5.4: the image of a box in another one is in its image
func TestMonotone(t *testing.T) {
	r := rand.New(rand.NewSource(13))
	imaged := 0
	for range 3000 {
		m, c, total := some(r, 3, api.MaxAmp)
		b := someBox(r, someNumbers(r, len(c.Plasma), total), total, total>>r.Intn(12))
		small := slices.Clone(b)
		for i, a := range b {
			small[i].Lo += r.Intn(a.Hi - a.Lo + 1)
			small[i].Hi -= r.Intn(a.Hi - small[i].Lo + 1)
		}
		image, e := equil.ImageBox(m, c, total, b)
		within, f := equil.ImageBox(m, c, total, small)
		if e != api.OK {
			continue
		}
		imaged++
		if f != api.OK || !inside(within, image) {
			t.Errorf("ImageBox of %v = %v, and of %v = %v, %d", b, image, small, within, f)
		}
	}
	if imaged < 500 {
		t.Errorf("too few cases: %d", imaged)
	}
}

// P5.4: the meet of two proved boxes is proved
func TestMeetOfProved(t *testing.T) {
	m, _ := pair()
	const total = 7
	met := 0
	for _, c := range lit() {
		proved := slices.DeleteFunc(boxes(total), func(b []api.Span) bool { return !equil.Judge(m, c, total, b) })
		for _, a := range proved {
			for _, b := range proved {
				both, e := equil.Meet(m, total, a, b)
				if _, f := equil.ImageBox(m, c, total, both); e == api.OK && f == api.OK {
					met++
					same(t, "Judge of a meet", equil.Judge(m, c, total, both), true)
				}
			}
		}
	}
	if met < 100 {
		t.Errorf("too few cases: %d", met)
	}
}

// P5.6: the mirror
func TestMirror(t *testing.T) {
	r := rand.New(rand.NewSource(14))
	proved, imaged := 0, 0
	for range 2000 {
		m, c, total := some(r, 4, api.MaxAmp)
		b := someBox(r, someNumbers(r, len(c.Plasma), total), total, total>>r.Intn(12))
		if found, e := equil.Find(m, c, total); e == api.OK && r.Intn(2) == 0 {
			b = found
		}
		n, d, _ := machine.Mirror(m, c)
		mirrored, e := equil.MirrorBox(m, b)
		if e != api.OK {
			t.Fatalf("MirrorBox of %v: %d", b, e)
		}
		gives(t, "MirrorBox twice", b...)(equil.MirrorBox(n, mirrored))
		same(t, "Judge of the mirrored", equil.Judge(n, d, total, mirrored), equil.Judge(m, c, total, b))
		if equil.Judge(m, c, total, b) {
			proved++
		}
		image, e := equil.ImageBox(m, c, total, b)
		if e != api.OK {
			fails[api.Span](t, "ImageBox of the mirrored", e)(equil.ImageBox(n, d, total, mirrored))
			continue
		}
		imaged++
		image, _ = equil.MirrorBox(m, image)
		gives(t, "ImageBox of the mirrored", image...)(equil.ImageBox(n, d, total, mirrored))
	}
	if proved < 50 || imaged < 500 {
		t.Errorf("too few cases: %d proved, %d with an image", proved, imaged)
	}
}

// P5.7: a round's sum, and its cells without an excess
func TestRounds(t *testing.T) {
	r := rand.New(rand.NewSource(15))
	outside := 0
	for range 3000 {
		m, c, total := some(r, 4, api.MaxAmp)
		j := someNumbers(r, len(c.Plasma), total)
		next, e := equil.Round(m, c, total, j)
		if e != api.OK {
			continue
		}
		same(t, "the sum after a round", sum(next), total)
		for i, a := range (model{m, c, total}).excesses(dots(j...)) {
			if a.Lo == 0 {
				outside++
				same(t, "a cell without an excess", next[i], 0)
			}
			if next[i] < 0 {
				t.Errorf("a cell has %d", next[i])
			}
		}
	}
	if outside < 500 {
		t.Errorf("too few cases: %d", outside)
	}
}

// someArgs returns random arguments for all functions.
func someArgs(r *rand.Rand) args {
	m, c, total := some(r, 3, api.MaxAmp)
	a := args{m: m, c: c, total: total, n: r.Intn(6), cell: r.Intn(len(c.Plasma))}
	a.j = someNumbers(r, len(c.Plasma), total)
	a.x, a.y = someBox(r, a.j, total, total>>r.Intn(12)), someBox(r, a.j, total, total>>r.Intn(12))
	a.p = api.Point{R: r.Intn(201) - 100, Z: r.Intn(201) - 100}
	for range r.Intn(4) {
		a.l = append(a.l, api.Point{R: r.Intn(201) - 100, Z: r.Intn(201) - 100})
	}
	return a
}

// anyNumber is often near to what counts.
func anyNumber(r *rand.Rand) int {
	list := append([]int{-101, -100, -1, 0, 1, 2, 3, 100, 101, 1000, 1001, api.MaxAmp, api.MaxAmp + 1, int(r.Uint64())}, wild...)
	return list[r.Intn(len(list))]
}

// spoiled puts any numbers into arguments, now and then.
func spoiled(r *rand.Rand, a args) args {
	numbers := []*int{&a.total, &a.n, &a.cell, &a.p.R, &a.p.Z, &a.m.Grid.R, &a.m.Grid.NR, &a.m.Grid.NZ, &a.m.Grid.Step, &a.m.Limits[0].R}
	for _, list := range [][]int{a.j, a.c.Coils, a.c.Shells, a.c.Plasma} {
		for i := range list {
			numbers = append(numbers, &list[i])
		}
	}
	for _, b := range [][]api.Span{a.x, a.y} {
		numbers = append(numbers, &b[0].Lo, &b[0].Hi)
	}
	for range r.Intn(4) {
		*numbers[r.Intn(len(numbers))] = anyNumber(r)
	}
	switch r.Intn(12) {
	case 0:
		a.m.Limits = nil
	case 1:
		a.x = append(a.x, sp(anyNumber(r), anyNumber(r)))
	case 2:
		a.c.Plasma, a.j, a.x, a.y = nil, nil, nil, nil
	case 3:
		a.l = append(a.l, api.Point{R: anyNumber(r), Z: anyNumber(r)})
	}
	return a
}

// all calls everything, and returns all results.
func all(t *testing.T, a args) map[string][]any {
	t.Helper()
	results := map[string][]any{
		"ValidBox": {equil.ValidBox(a.m, a.total, a.x)}, "Judge": {equil.Judge(a.m, a.c, a.total, a.x)},
		"Holds": {equil.Holds(a.x, a.j)}, "Even": {equil.Even(len(a.j), a.total)},
	}
	for name, f := range functions() {
		list, e := f.call(a)
		checkError(t, name, f, a, e)
		results[name] = append(list, e)
	}
	return results
}

// R1, R3, P5.1: no call panics, and errors come with zero values
func TestAnyArguments(t *testing.T) {
	r := rand.New(rand.NewSource(16))
	for range 3000 {
		all(t, spoiled(r, someArgs(r)))
	}
	all(t, args{})
	for _, n := range []int{math.MinInt, math.MaxInt} {
		equil.Even(n, n)
		equil.Holds(box(n, n), []int{n})
		equil.Holds(box(n, -n), nil)
	}
}

// room gives a list spare capacity, with something in it.
func room[T any](list []T, spare T) []T {
	return append(append(make([]T, 0, len(list)+2), list...), spare, spare)[:len(list)]
}

// roomy returns a copy of arguments in which all lists have room.
func roomy(a args) args {
	a.m.Coils, a.m.Shells = room(a.m.Coils, api.Coil{Name: "spare"}), room(a.m.Shells, api.Shell{R: 99})
	a.m.Limits, a.m.Sensors = room(a.m.Limits, api.Point{R: 99}), room(a.m.Sensors, api.Sensor{Name: "spare"})
	a.c = api.Currents{Coils: room(a.c.Coils, 99), Shells: room(a.c.Shells, 99), Plasma: room(a.c.Plasma, 99)}
	a.j, a.x, a.y, a.l = room(a.j, 99), room(a.x, sp(9, 99)), room(a.y, sp(9, 99)), room(a.l, api.Point{R: 99})
	return a
}

func whole[T any](list []T) []T { return list[:cap(list)] }

// memory returns the lists of arguments with their spare capacity.
func memory(a args) []any {
	return []any{
		whole(a.m.Coils), whole(a.m.Shells), whole(a.m.Limits), whole(a.m.Sensors),
		whole(a.c.Coils), whole(a.c.Shells), whole(a.c.Plasma), whole(a.j), whole(a.x), whole(a.y), whole(a.l),
	}
}

// overwrite spoils a list of a result, also in its spare capacity.
func overwrite(result any) {
	v := reflect.ValueOf(result)
	if v.Kind() != reflect.Slice {
		return
	}
	v = v.Slice(0, v.Cap())
	for i := range v.Len() {
		v.Index(i).SetZero()
	}
}

// R4, R7, P5.1: arguments stay as they are, results are new memory, and a call again gives the same
func TestNewMemory(t *testing.T) {
	r := rand.New(rand.NewSource(17))
	for round := range 300 {
		a := roomy(someArgs(r))
		if round%3 == 0 {
			a.n = 0
		}
		before := memory(roomy(a))
		first, again := all(t, a), all(t, a)
		if !reflect.DeepEqual(first, again) {
			t.Errorf("a call again gives %v, not %v", again, first)
		}
		for _, results := range again {
			for _, result := range results {
				overwrite(result)
			}
		}
		if !reflect.DeepEqual(memory(a), before) {
			t.Error("a call has changed its arguments, or kept them in its results")
		}
		if third := all(t, a); !reflect.DeepEqual(first, third) {
			t.Errorf("after the results were overwritten, a call gives %v, not %v", third, first)
		}
	}
}

// R4: no two lists of a result share memory
func TestListsApart(t *testing.T) {
	r := rand.New(rand.NewSource(18))
	for range 100 {
		a := someArgs(r)
		low, high, _ := equil.Split(a.m, a.total, a.x, a.cell)
		want := slices.Clone(high)
		overwrite(low)
		gives(t, "Split", want...)(high, api.OK)
		sure, possible, _ := equil.Touching(a.m, a.c, a.x)
		kept := slices.Clone(possible)
		overwrite(sure)
		gives(t, "Touching", kept...)(possible, api.OK)
	}
}

// R4: a nil list and an empty one are the same
func TestNilAndEmpty(t *testing.T) {
	m, c := single(0)
	m.Shells, c.Shells = nil, nil
	a := args{m: m, c: c, total: 10, j: []int{8}, x: box(9, 10), y: box(8, 10)}
	b := a
	b.m.Coils, b.m.Shells, b.m.Sensors, b.l = []api.Coil{}, []api.Shell{}, []api.Sensor{}, []api.Point{}
	b.c.Coils, b.c.Shells = []int{}, []int{}
	if first, second := all(t, a), all(t, b); !reflect.DeepEqual(first, second) {
		t.Errorf("of nil %v, of empty lists %v", first, second)
	}
	same(t, "Holds", equil.Holds([]api.Span{}, nil), true)
	same(t, "ValidBox", equil.ValidBox(m, 10, []api.Span{}), equil.ValidBox(m, 10, nil))
}
