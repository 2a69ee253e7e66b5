package sense_test

import (
	"math/bits"
	"math/rand"
	"reflect"
	"slices"
	"testing"

	"shotdesk/api"
	"shotdesk/machine"
	"shotdesk/sense"
	"shotdesk/span"
)

// around are readings of the toy's sensors, less their backgrounds, that are wrong by up to far.
func around(far int, values ...int) []api.Span {
	var r []api.Span
	for k, n := range values {
		b, _ := sense.Background(toy(), lit(), k)
		r = append(r, sp(b+n-far, b+n+far))
	}
	return r
}

// at is what the toy's sensors read of a current in a cell, but for their backgrounds.
func at(cell, current int) []int {
	var l []int
	for _, row := range responses {
		l = append(l, row[cell]*current)
	}
	return l
}

func cand(cell, lo, hi int) api.Candidate {
	return api.Candidate{Cell: cell, Current: sp(lo, hi)}
}

// 4.3
func TestCandidates(t *testing.T) {
	everything := []api.Candidate{cand(0, 0, api.MaxAmp), cand(1, 0, api.MaxAmp), cand(2, 0, api.MaxAmp), cand(3, 0, api.MaxAmp)}
	first := anything(toy())
	first[0] = sp(69000, 105000)
	some := anything(toy())
	copy(some, around(30000, 100000, 0))
	for _, c := range []struct {
		what string
		r    []api.Span
		want []api.Candidate
	}{
		{"anything", anything(toy()), everything},
		{"the flux alone", first, []api.Candidate{cand(0, 2, 3), cand(1, 4, 4), cand(2, 4, 5), cand(3, 5, 6)}},
		{"a filament", around(0, at(2, 9)...), []api.Candidate{cand(2, 9, 9)}},
		{"a filament, about", around(41000, at(3, 9)...), []api.Candidate{cand(3, 9, 9)}},
		{"no plasma", around(0, 0, 0, 0, 0), []api.Candidate{cand(0, 0, 0), cand(1, 0, 0), cand(2, 0, 0), cand(3, 0, 0)}},
		{"none", around(5, 34482, -125000, 0, 0), nil},
		{"none of one sensor", append(anything(toy())[:3], sp(api.MaxValue, api.MaxValue)), nil},
		// 4 at the cell 1 have the flux 88,888, but the radial field 166,668; the last cell has -208,335 with 5
		{"none of two", some, nil},
	} {
		if l, e := sense.Candidates(toy(), lit(), c.r); !slices.Equal(l, c.want) || e != api.OK {
			t.Errorf("%s: Candidates = %v, %d, want %v", c.what, l, e, c.want)
		}
	}
	if l, e := sense.Candidates(bare(), api.Currents{Plasma: []int{1}}, nil); !slices.Equal(l, everything[:1]) || e != api.OK {
		t.Errorf("Candidates without sensors = %v, %d", l, e)
	}
}

// 4.3
func TestWhere(t *testing.T) {
	const most = api.MaxValue
	for _, c := range []struct {
		l             []api.Candidate
		r, z, current api.Span
	}{
		{[]api.Candidate{cand(0, 7, 7)}, sp(3, 3), sp(4, 4), sp(7, 7)},
		{[]api.Candidate{cand(1, 2, 3), cand(3, 5, 9)}, sp(5, 5), sp(4, 6), sp(2, 9)},
		{[]api.Candidate{cand(3, 5, 9), cand(2, 6, 7)}, sp(3, 5), sp(6, 6), sp(5, 9)},
		{[]api.Candidate{cand(2, -5, 1), cand(1, 3, 4), cand(2, most, most)}, sp(3, 5), sp(4, 6), sp(-5, most)},
		{[]api.Candidate{cand(0, -most, -most), cand(0, -most, -7)}, sp(3, 3), sp(4, 4), sp(-most, -7)},
	} {
		if r, z, current, e := sense.Where(toy(), c.l); r != c.r || z != c.z || current != c.current || e != api.OK {
			t.Errorf("Where of %v = %v, %v, %v, %d", c.l, r, z, current, e)
		}
	}
	fails := func(m api.Machine, l []api.Candidate, want api.Errno) {
		t.Helper()
		if r, z, current, e := sense.Where(m, l); r != (api.Span{}) || z != r || current != r || e != want {
			t.Errorf("Where of %v = %v, %v, %v, %d, want %d", l, r, z, current, e, want)
		}
	}
	good := api.Candidate{Cell: 1, Current: sp(2, 3)}
	fails(toy(), nil, api.ErrNone)
	fails(toy(), []api.Candidate{}, api.ErrNone)
	for _, m := range brokenMachines() {
		fails(m, nil, api.ErrInvalid)
		fails(m, []api.Candidate{good}, api.ErrInvalid)
	}
	for _, cell := range outside(3) {
		bad := api.Candidate{Cell: cell, Current: sp(2, 3)}
		fails(toy(), []api.Candidate{bad}, api.ErrInvalid)
		fails(toy(), []api.Candidate{good, bad, good}, api.ErrInvalid)
	}
	for _, a := range brokenSpans() {
		bad := api.Candidate{Cell: 1, Current: a}
		fails(toy(), []api.Candidate{bad}, api.ErrInvalid)
		fails(toy(), []api.Candidate{good, good, bad}, api.ErrInvalid)
	}
}

// 4.3 and Details
func TestAccuse(t *testing.T) {
	wrong := func(r []api.Span, sensors ...int) []api.Span {
		r = append(r, anything(toy())[len(r):]...)
		for _, k := range sensors {
			r[k] = sp(api.MaxValue, api.MaxValue)
		}
		return r
	}
	for _, c := range []struct {
		what string
		r    []api.Span
		want api.Blame
	}{
		{"anything", anything(toy()), api.Blame{}},
		{"a filament", around(0, at(2, 9)...), api.Blame{Cell: 2, Current: 9}},
		{"a filament, about", around(300000, at(3, 9)...), api.Blame{Cell: 3, Current: 6}},
		{"one lies", wrong(around(0, at(2, 9)...), 0), api.Blame{Cell: 2, Current: 9, Lying: []int{0}}},
		{"two lie", wrong(around(0, at(3, 9)...), 0, 1), api.Blame{Cell: 3, Current: 9, Lying: []int{0, 1}}},
		{"the last one lies", wrong(around(0, at(1, 9)...), 3), api.Blame{Cell: 1, Current: 9, Lying: []int{3}}},
		{"all but one lie", wrong(around(0, at(2, 9)...), 0, 2, 3), api.Blame{Cell: 2, Current: 9, Lying: []int{0, 2, 3}}},
		{"all lie", wrong(anything(toy()), 0, 1, 2, 3), api.Blame{Lying: []int{0, 1, 2, 3}}},
		{"the least cell", around(0, 0, 0, 0, 1), api.Blame{Lying: []int{3}}},
		{"the least current", wrong(around(34482, 5*34482), 1, 2, 3), api.Blame{Current: 4, Lying: []int{1, 2, 3}}},
	} {
		b, e := sense.Accuse(toy(), lit(), c.r)
		if b.Cell != c.want.Cell || b.Current != c.want.Current || !slices.Equal(b.Lying, c.want.Lying) || e != api.OK {
			t.Errorf("%s: Accuse = %v, %d, want %v", c.what, b, e, c.want)
		}
	}
	if b, e := sense.Accuse(bare(), api.Currents{Plasma: []int{1}}, nil); b.Cell != 0 || b.Current != 0 || len(b.Lying) != 0 || e != api.OK {
		t.Errorf("Accuse without sensors = %v, %d", b, e)
	}
}

// 4.3 and Details: sensors that meet at currents in any order
func TestAccuseOrder(t *testing.T) {
	m := bare()
	// four flux sensors at the cell, each with the response 250,000, agree with 8..9, 3..5, 4..8 and 0..1
	var r []api.Span
	for _, a := range []api.Span{sp(8, 9), sp(3, 5), sp(4, 8), sp(0, 1)} {
		m.Sensors = append(m.Sensors, api.Sensor{Name: string(rune('a' + len(r))), Kind: api.SFlux})
		r = append(r, sp(250000*a.Lo, 250000*a.Hi))
	}
	c := api.Currents{Plasma: []int{0}}
	if b, e := sense.Accuse(m, c, r); b.Current != 4 || !slices.Equal(b.Lying, []int{0, 3}) || e != api.OK {
		t.Errorf("Accuse = %v, %d", b, e)
	}
	if l, e := sense.Excluded(m, c, r); !slices.Equal(l, [][2]int{{0, 1}, {0, 3}, {1, 3}, {2, 3}}) || e != api.OK {
		t.Errorf("Excluded = %v, %d", l, e)
	}
	if l, _ := sense.Candidates(m, c, r[:4]); len(l) != 0 {
		t.Errorf("Candidates = %v", l)
	}
	r[0], r[3] = r[3], r[0]
	if b, _ := sense.Accuse(m, c, r); b.Current != 4 || !slices.Equal(b.Lying, []int{0, 3}) {
		t.Errorf("Accuse = %v", b)
	}
}

// 4.3 and Details
func TestExcluded(t *testing.T) {
	nothing := sp(api.MaxValue, api.MaxValue)
	for _, c := range []struct {
		what string
		r    []api.Span
		want [][2]int
	}{
		{"anything", anything(toy()), nil},
		{"a filament", around(0, at(2, 9)...), nil},
		{"one that agrees with nothing", append([]api.Span{nothing}, anything(toy())[1:]...), [][2]int{{0, 1}, {0, 2}, {0, 3}}},
		{"the last one agrees with nothing", append(anything(toy())[:3], nothing), [][2]int{{0, 3}, {1, 3}, {2, 3}}},
		{"all agree with nothing", slices.Repeat([]api.Span{nothing}, 4), [][2]int{{0, 1}, {0, 2}, {0, 3}, {1, 2}, {1, 3}, {2, 3}}},
		// the radial field 125,000 is of the cell 0, the last sensor's of the cells 2 and 3
		{"two in different cells", append([]api.Span{sp(0, 1000000)}, around(0, 0, 125000, -125000, -95238)[1:]...), [][2]int{{1, 3}, {2, 3}}},
		// at the cell 0 the flux sensor asks for 2, the radial one for 3
		{"two in one cell", append(around(0, 2*34482, 3*125000), anything(toy())[2:]...), [][2]int{{0, 1}}},
	} {
		if l, e := sense.Excluded(toy(), lit(), c.r); !slices.Equal(l, c.want) || e != api.OK {
			t.Errorf("%s: Excluded = %v, %d, want %v", c.what, l, e, c.want)
		}
	}
	for _, m := range []api.Machine{bare(), bare(api.Sensor{Name: "a", Kind: api.SFlux})} {
		if l, e := sense.Excluded(m, api.Currents{Plasma: []int{1}}, slices.Repeat([]api.Span{nothing}, len(m.Sensors))); len(l) != 0 || e != api.OK {
			t.Errorf("Excluded of %d sensors = %v, %d", len(m.Sensors), l, e)
		}
	}
}

// A trial is a machine with few cells, and readings, of which all currents can be tried.
type trial struct {
	m api.Machine
	c api.Currents
	r []api.Span
}

func someTrial(r *rand.Rand) trial {
	m, c := some(r, 1+r.Intn(5))
	m.Grid.NR, m.Grid.NZ = 1+r.Intn(2), 1
	c.Plasma = c.Plasma[:0]
	for range m.Grid.NR {
		c.Plasma = append(c.Plasma, 0)
	}
	readings := someReadings(r, m, c)
	return trial{m, c, readings}
}

// tables returns what each sensor would read of currents of 0 and of 1 in each cell.
func (x trial) tables() (none, one [][]int) {
	for cell := range x.c.Plasma {
		none, one = append(none, nil), append(one, nil)
		for k := range x.m.Sensors {
			for current, table := range [][][]int{none, one} {
				f, _ := sense.Filament(x.m, x.c, cell, current)
				n, _ := machine.Exact(x.m, f, k)
				table[cell] = append(table[cell], n)
			}
		}
	}
	return none, one
}

// agree calls do with each cell and current, and tells it which sensors agree: those whose bits are set.
func (x trial) agree(do func(cell, current int, sensors uint)) {
	none, one := x.tables()
	for cell := range none {
		for current := range api.MaxAmp + 1 {
			sensors := uint(0)
			for k, a := range x.r {
				if n := none[cell][k] + current*(one[cell][k]-none[cell][k]); a.Lo <= n && n <= a.Hi {
					sensors |= 1 << k
				}
			}
			do(cell, current, sensors)
		}
	}
}

// members returns the sensors whose bits are set.
func members(sensors uint, count int) []int {
	var l []int
	for k := range count {
		if sensors&(1<<k) != 0 {
			l = append(l, k)
		}
	}
	return l
}

// tried is what all cells and currents tell.
func (x trial) tried() (blame api.Blame, candidates []api.Candidate, excluded [][2]int) {
	count, most := len(x.m.Sensors), -1
	together := map[uint]bool{0: true}
	before := uint(0)
	x.agree(func(cell, current int, sensors uint) {
		if sensors != before {
			together[sensors] = true
			before = sensors
		}
		if n := bits.OnesCount(sensors); n > most {
			most = n
			blame = api.Blame{Cell: cell, Current: current, Lying: members(^sensors, count)}
		}
		if bits.OnesCount(sensors) < count {
			return
		}
		if last := len(candidates) - 1; last < 0 || candidates[last].Cell != cell {
			candidates = append(candidates, cand(cell, current, current))
		} else {
			candidates[last].Current.Hi = current
		}
	})
	for a := range count {
		for b := a + 1; b < count; b++ {
			both, met := uint(1<<a|1<<b), false
			for sensors := range together {
				met = met || sensors&both == both
			}
			if !met {
				excluded = append(excluded, [2]int{a, b})
			}
		}
	}
	return blame, candidates, excluded
}

// 4.3, P4.3: all cells and currents
func TestAccuseTries(t *testing.T) {
	r := rand.New(rand.NewSource(5))
	lying, pairs, cells := 0, 0, 0
	for range 60 {
		x := someTrial(r)
		blame, candidates, excluded := x.tried()
		if b, e := sense.Accuse(x.m, x.c, x.r); b.Cell != blame.Cell || b.Current != blame.Current || !slices.Equal(b.Lying, blame.Lying) || e != api.OK {
			t.Errorf("Accuse = %v, %d, want %v", b, e, blame)
		}
		if l, e := sense.Excluded(x.m, x.c, x.r); !slices.Equal(l, excluded) || e != api.OK {
			t.Errorf("Excluded = %v, %d, want %v", l, e, excluded)
		}
		if l, e := sense.Candidates(x.m, x.c, x.r); !slices.Equal(l, candidates) || e != api.OK {
			t.Errorf("Candidates = %v, %d, want %v", l, e, candidates)
		}
		for _, p := range excluded {
			if !slices.Contains(blame.Lying, p[0]) && !slices.Contains(blame.Lying, p[1]) {
				t.Errorf("of the pair %v nobody lies: %v", p, blame)
			}
		}
		lying, pairs, cells = lying+len(blame.Lying), pairs+len(excluded), cells+len(candidates)
	}
	if lying < 10 || pairs < 10 || cells < 10 {
		t.Errorf("the test has seen %d lying, %d pairs, %d candidates", lying, pairs, cells)
	}
}

// P4.2, P5
func TestNoFalseBlame(t *testing.T) {
	r := rand.New(rand.NewSource(6))
	for range 300 {
		m, c := some(r, r.Intn(7))
		cell, current := r.Intn(len(c.Plasma)), upTo(r, api.MaxAmp)
		f, _ := sense.Filament(m, c, cell, current)
		readings, e := sense.Read(m, f, api.Scene{Seed: r.Uint32()}, upTo(r, lastTick))
		if e != api.OK {
			t.Fatalf("Read: %d", e)
		}
		l, e := sense.Candidates(m, c, readings)
		if i := slices.IndexFunc(l, func(x api.Candidate) bool { return x.Cell == cell }); e != api.OK || i < 0 || !span.Contains(l[i].Current, current) {
			t.Errorf("the filament %d, %d is no candidate: %v, %d", cell, current, l, e)
		}
		if l, e := sense.Excluded(m, c, readings); len(l) != 0 || e != api.OK {
			t.Errorf("Excluded = %v, %d", l, e)
		}
		if b, e := sense.Accuse(m, c, readings); len(b.Lying) != 0 || e != api.OK {
			t.Errorf("Accuse = %v, %d", b, e)
		}
	}
}

// P4.4: candidates are what is common to Allowed of all sensors
func TestCandidatesAreCommon(t *testing.T) {
	r := rand.New(rand.NewSource(7))
	for range 200 {
		m, c := some(r, r.Intn(5))
		readings := someReadings(r, m, c)
		var want []api.Candidate
		for cell := range c.Plasma {
			common, e := sp(0, api.MaxAmp), api.OK
			for k := range m.Sensors {
				a, none := sense.Allowed(m, c, readings, k, cell)
				if none != api.OK || e != api.OK {
					e = api.ErrNone
					continue
				}
				common, e = span.Meet(common, a)
			}
			if e == api.OK {
				want = append(want, api.Candidate{Cell: cell, Current: common})
			}
		}
		if l, e := sense.Candidates(m, c, readings); !slices.Equal(l, want) || e != api.OK {
			t.Errorf("Candidates = %v, %d, want %v", l, e, want)
		}
	}
}

// P4.4: more sensors, and narrower readings
func TestNeverAdds(t *testing.T) {
	r := rand.New(rand.NewSource(8))
	for range 200 {
		m, c := some(r, 1+r.Intn(5))
		readings := someReadings(r, m, c)
		narrower := slices.Clone(readings)
		for k, a := range narrower {
			lo := a.Lo + r.Intn(a.Hi-a.Lo+1)
			narrower[k] = sp(lo, lo+r.Intn(a.Hi-lo+1))
		}
		fewer := m
		fewer.Sensors = m.Sensors[:r.Intn(len(m.Sensors))]
		l, _ := sense.Candidates(m, c, readings)
		less, e := sense.Candidates(m, c, narrower)
		checkPart(t, less, l, e)
		more, e := sense.Candidates(fewer, c, readings[:len(fewer.Sensors)])
		checkPart(t, l, more, e)
	}
}

// checkPart checks that all candidates of a list are among those of another one.
func checkPart(t *testing.T, part, all []api.Candidate, e api.Errno) {
	t.Helper()
	for _, x := range part {
		if e != api.OK || !slices.ContainsFunc(all, func(y api.Candidate) bool { return y.Cell == x.Cell && span.Inside(x.Current, y.Current) }) {
			t.Errorf("%v is not among %v, %d", x, all, e)
		}
	}
}

// the cells' currents do not matter where readings are explained
func TestPlasmaDoesNotMatter(t *testing.T) {
	r := rand.New(rand.NewSource(9))
	for range 50 {
		m, c := some(r, 4)
		readings := someReadings(r, m, c)
		other := api.Currents{Coils: c.Coils, Shells: c.Shells, Plasma: make([]int, len(c.Plasma))}
		other.Plasma[r.Intn(len(c.Plasma))] = upTo(r, api.MaxAmp)
		if !reflect.DeepEqual(explained(m, c, readings, 0, 0, 7), explained(m, other, readings, 0, 0, 7)) {
			t.Errorf("with %v in place of %v readings are explained in another way", other.Plasma, c.Plasma)
		}
	}
}
