package sense_test

import (
	"math/big"
	"math/rand"
	"reflect"
	"slices"
	"testing"

	"shotdesk/api"
	"shotdesk/machine"
	"shotdesk/sense"
	"shotdesk/span"
)

// 4.2
func TestBackground(t *testing.T) {
	for k := range toy().Sensors {
		c := lit()
		c.Plasma = make([]int, 4)
		want, _ := machine.Exact(toy(), c, k)
		if n, e := sense.Background(toy(), lit(), k); n != want || e != api.OK {
			t.Errorf("Background of the sensor %d = %d, %d, want %d", k, n, e, want)
		}
	}
	if n, _ := sense.Background(toy(), lit(), 0); n != 1000 {
		t.Errorf("the flux sensor's background is %d", n)
	}
	for _, sensor := range outside(3) {
		if n, e := sense.Background(toy(), lit(), sensor); n != 0 || e != api.ErrRange {
			t.Errorf("Background of the sensor %d = %d, %d", sensor, n, e)
		}
		for what, c := range brokenCurrents() {
			if n, e := sense.Background(toy(), c, sensor); n != 0 || e != api.ErrInvalid {
				t.Errorf("%s: Background = %d, %d", what, n, e)
			}
		}
	}
	for _, m := range brokenMachines() {
		if n, e := sense.Background(m, lit(), 0); n != 0 || e != api.ErrInvalid {
			t.Errorf("Background without a machine = %d, %d", n, e)
		}
	}
}

// 4.2
func TestResponse(t *testing.T) {
	for k, row := range responses {
		for cell, want := range row {
			if n, e := sense.Response(toy(), k, cell); n != want || e != api.OK {
				t.Errorf("Response of %d to %d = %d, %d, want %d", k, cell, n, e, want)
			}
		}
	}
	for _, sensor := range outside(3) {
		for _, cell := range []int{0, 3, -1, 4} {
			if n, e := sense.Response(toy(), sensor, cell); n != 0 || e != api.ErrRange {
				t.Errorf("Response of %d to %d = %d, %d", sensor, cell, n, e)
			}
		}
	}
	for _, cell := range outside(3) {
		if n, e := sense.Response(toy(), 1, cell); n != 0 || e != api.ErrRange {
			t.Errorf("Response to %d = %d, %d", cell, n, e)
		}
	}
	for _, m := range brokenMachines() {
		for _, cell := range []int{0, -1} {
			if n, e := sense.Response(m, cell, cell); n != 0 || e != api.ErrInvalid {
				t.Errorf("Response without a machine = %d, %d", n, e)
			}
		}
	}
}

// 4.2: Response is what Exact tells of the whole machine
func TestResponseOfWhole(t *testing.T) {
	r := rand.New(rand.NewSource(2))
	for range 100 {
		m, _ := some(r, 4)
		for k := range m.Sensors {
			for cell := range machine.Cells(m) {
				c := machine.Quiet(m)
				c.Plasma[cell] = 1
				want, _ := machine.Exact(m, c, k)
				if n, e := sense.Response(m, k, cell); n != want || e != api.OK {
					t.Errorf("Response = %d, %d, want %d", n, e, want)
				}
			}
		}
	}
}

// 4.2
func TestFilament(t *testing.T) {
	want := api.Currents{Coils: []int{0}, Shells: []int{2}, Plasma: []int{0, 0, 7, 0}}
	if c, e := sense.Filament(toy(), lit(), 2, 7); !reflect.DeepEqual(c, want) || e != api.OK {
		t.Errorf("Filament = %v, %d", c, e)
	}
	for _, current := range []int{0, 1, api.MaxAmp} {
		if c, e := sense.Filament(toy(), lit(), 3, current); e != api.OK || !slices.Equal(c.Plasma, []int{0, 0, 0, current}) {
			t.Errorf("Filament of %d = %v, %d", current, c, e)
		}
	}
	fails := func(m api.Machine, c api.Currents, cell, current int, want api.Errno) {
		t.Helper()
		if c, e := sense.Filament(m, c, cell, current); !reflect.ValueOf(c).IsZero() || e != want {
			t.Errorf("Filament of %d, %d = %v, %d, want %d", cell, current, c, e, want)
		}
	}
	for _, cell := range outside(3) {
		fails(toy(), lit(), cell, 1, api.ErrRange)
	}
	for _, current := range outside(api.MaxAmp) {
		fails(toy(), lit(), 1, current, api.ErrRange)
	}
	for _, cell := range []int{0, -1} {
		for _, c := range brokenCurrents() {
			fails(toy(), c, cell, cell, api.ErrInvalid)
		}
		for _, m := range brokenMachines() {
			fails(m, lit(), cell, cell, api.ErrInvalid)
		}
	}
}

// 4.2 and the example
func TestAllowed(t *testing.T) {
	const all, most = api.MaxAmp, api.MaxValue
	background := make([]int, 4)
	for k := range background {
		background[k], _ = sense.Background(toy(), lit(), k)
	}
	for _, c := range []struct {
		sensor, cell int
		reading      api.Span // less the background
		want         api.Span
		e            api.Errno
	}{
		{0, 0, sp(68000, 104000), sp(2, 3), api.OK},
		{0, 0, sp(2*34482, 3*34482), sp(2, 3), api.OK},
		{0, 0, sp(2*34482+1, 3*34482-1), api.Span{}, api.ErrNone},
		{0, 0, sp(-5, 34481), sp(0, 0), api.OK},
		{0, 0, sp(0, 0), sp(0, 0), api.OK},
		{0, 0, sp(1, 34482), sp(1, 1), api.OK},
		{0, 0, sp(-2, -1), api.Span{}, api.ErrNone},
		{0, 0, sp(-34482, -34482), api.Span{}, api.ErrNone},
		{0, 0, sp(34482*all, 34482*all), sp(all, all), api.OK},
		{0, 0, sp(34482*all-34482, 34482*all-1), sp(all-1, all-1), api.OK},
		{0, 0, sp(34482*all+1, 34482*all+34482), api.Span{}, api.ErrNone},
		{1, 2, sp(-250000, -125000), sp(1, 2), api.OK},
		{1, 2, sp(-250001, -124999), sp(1, 2), api.OK},
		{1, 2, sp(-249999, -124999), sp(1, 1), api.OK},
		{1, 2, sp(-249999, -125001), api.Span{}, api.ErrNone},
		{1, 2, sp(-124999, -1), api.Span{}, api.ErrNone},
		{1, 2, sp(1, 1000000), api.Span{}, api.ErrNone},
		{1, 2, sp(-1, 1), sp(0, 0), api.OK},
		{1, 2, sp(-125000*all, 0), sp(0, all), api.OK},
		{1, 2, sp(-125000*all-1, -125000*all), sp(all, all), api.OK},
		{1, 2, sp(-125000*all-125000, -125000*all-1), api.Span{}, api.ErrNone},
		{3, 0, sp(0, 0), sp(0, all), api.OK},
		{3, 0, sp(-1, 1), sp(0, all), api.OK},
		{3, 0, sp(1, 1), api.Span{}, api.ErrNone},
		{3, 0, sp(-1, -1), api.Span{}, api.ErrNone},
	} {
		r := anything(toy())
		b := background[c.sensor]
		r[c.sensor] = sp(c.reading.Lo+b, c.reading.Hi+b)
		a, e := sense.Allowed(toy(), lit(), r, c.sensor, c.cell)
		if a != c.want || e != c.e {
			t.Errorf("Allowed of the reading %v of %d at %d = %v, %d, want %v, %d", c.reading, c.sensor, c.cell, a, e, c.want, c.e)
		}
	}
	for _, reading := range []api.Span{sp(most, most), sp(-most, -most)} {
		for k := range background {
			r := anything(toy())
			r[k] = reading
			if a, e := sense.Allowed(toy(), lit(), r, k, 1); a != (api.Span{}) || e != api.ErrNone {
				t.Errorf("Allowed of %v = %v, %d", reading, a, e)
			}
			if a, e := sense.Allowed(toy(), lit(), anything(toy()), k, 1); a != sp(0, all) || e != api.OK {
				t.Errorf("Allowed of anything = %v, %d", a, e)
			}
		}
	}
}

// 4.2: Allowed has the currents that Exact tells to agree, and no others
func TestAllowedModel(t *testing.T) {
	r := rand.New(rand.NewSource(3))
	seen := map[api.Errno]int{}
	for range 200 {
		m, c := some(r, 4)
		readings := someReadings(r, m, c)
		for k := range m.Sensors {
			for cell := range machine.Cells(m) {
				a, e := sense.Allowed(m, c, readings, k, cell)
				seen[e]++
				if want, any := modelAllowed(m, c, readings[k], k, cell); a != want || (e == api.OK) != any || e != api.OK && e != api.ErrNone {
					t.Errorf("Allowed = %v, %d, want %v", a, e, want)
				}
			}
		}
	}
	if seen[api.OK] < 100 || seen[api.ErrNone] < 100 {
		t.Errorf("the test has seen the errors %v", seen)
	}
}

// modelAllowed looks for the least and the greatest current by halving, in big numbers.
func modelAllowed(m api.Machine, c api.Currents, reading api.Span, k, cell int) (api.Span, bool) {
	value := func(current int) *big.Int {
		f, _ := sense.Filament(m, c, cell, current)
		n, _ := machine.Exact(m, f, k)
		return big.NewInt(int64(n))
	}
	sign := value(1).Cmp(value(0))
	low, high := reading.Lo, reading.Hi
	if sign < 0 {
		low, high = -high, -low
	}
	// the first of the currents from which on a value is at least n, or one more than the greatest current
	first := func(n int) int {
		from, to := 0, api.MaxAmp+1
		for from < to {
			middle := (from + to) / 2
			x := value(middle)
			if sign < 0 {
				x.Neg(x)
			}
			if x.Cmp(big.NewInt(int64(n))) >= 0 {
				to = middle
			} else {
				from = middle + 1
			}
		}
		return from
	}
	a := sp(first(low), first(high+1)-1)
	if a.Lo > a.Hi {
		return api.Span{}, false
	}
	return a, true
}

// 4.2
func TestAgreeing(t *testing.T) {
	r := anything(toy())
	r[0] = sp(69000, 105000)
	r[3] = sp(0, 0)
	for _, c := range []struct {
		cell, current int
		want          []int
	}{
		{0, 2, []int{0, 1, 2}}, {0, 3, []int{0, 1, 2}}, {0, 1, []int{1, 2}}, {0, 4, []int{1, 2}}, {0, 0, []int{1, 2}}, {0, api.MaxAmp, []int{1, 2}},
		{1, 4, []int{0, 1, 2}}, {1, 3, []int{1, 2}}, {3, 0, []int{1, 2}},
	} {
		if l, e := sense.Agreeing(toy(), lit(), r, c.cell, c.current); !slices.Equal(l, c.want) || e != api.OK {
			t.Errorf("Agreeing with %d, %d = %v, %d, want %v", c.cell, c.current, l, e, c.want)
		}
	}
	if l, e := sense.Agreeing(toy(), lit(), slices.Repeat([]api.Span{sp(api.MaxValue, api.MaxValue)}, 4), 0, 0); len(l) != 0 || e != api.OK {
		t.Errorf("Agreeing with readings of nothing = %v, %d", l, e)
	}
	if l, e := sense.Agreeing(bare(), api.Currents{Plasma: []int{1}}, nil, 0, 1); len(l) != 0 || e != api.OK {
		t.Errorf("Agreeing without sensors = %v, %d", l, e)
	}
}

// 4.2: a sensor agrees if what it would read of the filament lies in its reading
func TestAgreeingModel(t *testing.T) {
	r := rand.New(rand.NewSource(4))
	for range 200 {
		m, c := some(r, 5)
		readings := someReadings(r, m, c)
		cell, current := r.Intn(len(c.Plasma)), upTo(r, api.MaxAmp)
		if a, e := sense.Allowed(m, c, readings, 0, cell); e == api.OK && r.Intn(2) == 0 {
			current = a.Lo
		}
		f, _ := sense.Filament(m, c, cell, current)
		var want []int
		for k := range m.Sensors {
			if n, _ := machine.Exact(m, f, k); span.Contains(readings[k], n) {
				want = append(want, k)
			}
		}
		if l, e := sense.Agreeing(m, c, readings, cell, current); !slices.Equal(l, want) || e != api.OK {
			t.Errorf("Agreeing = %v, %d, want %v", l, e, want)
		}
	}
}

// 4.2: the errors of Allowed and Agreeing in their order
func TestFilamentErrors(t *testing.T) {
	for _, sensor := range outside(3) {
		if a, e := sense.Allowed(toy(), lit(), anything(toy()), sensor, 0); a != (api.Span{}) || e != api.ErrRange {
			t.Errorf("Allowed of the sensor %d = %v, %d", sensor, a, e)
		}
	}
	nothing := slices.Repeat([]api.Span{sp(api.MaxValue, api.MaxValue)}, 4)
	for _, cell := range outside(3) {
		if a, e := sense.Allowed(toy(), lit(), nothing, 0, cell); a != (api.Span{}) || e != api.ErrRange {
			t.Errorf("Allowed at the cell %d = %v, %d", cell, a, e)
		}
		if l, e := sense.Agreeing(toy(), lit(), nothing, cell, 0); len(l) != 0 || e != api.ErrRange {
			t.Errorf("Agreeing with the cell %d = %v, %d", cell, l, e)
		}
	}
	for _, current := range outside(api.MaxAmp) {
		if l, e := sense.Agreeing(toy(), lit(), nothing, 0, current); len(l) != 0 || e != api.ErrRange {
			t.Errorf("Agreeing with the current %d = %v, %d", current, l, e)
		}
	}
}

// the machine, the currents and the readings, before all else
func TestExplainErrors(t *testing.T) {
	fails := func(what string, m api.Machine, c api.Currents, r []api.Span) {
		t.Helper()
		for _, n := range []int{0, -1} {
			if a, e := sense.Allowed(m, c, r, n, n); a != (api.Span{}) || e != api.ErrInvalid {
				t.Errorf("%s: Allowed = %v, %d", what, a, e)
			}
			if l, e := sense.Agreeing(m, c, r, n, n); len(l) != 0 || e != api.ErrInvalid {
				t.Errorf("%s: Agreeing = %v, %d", what, l, e)
			}
		}
		if l, e := sense.Candidates(m, c, r); len(l) != 0 || e != api.ErrInvalid {
			t.Errorf("%s: Candidates = %v, %d", what, l, e)
		}
		if b, e := sense.Accuse(m, c, r); b.Cell != 0 || b.Current != 0 || len(b.Lying) != 0 || e != api.ErrInvalid {
			t.Errorf("%s: Accuse = %v, %d", what, b, e)
		}
		if l, e := sense.Excluded(m, c, r); len(l) != 0 || e != api.ErrInvalid {
			t.Errorf("%s: Excluded = %v, %d", what, l, e)
		}
	}
	for _, m := range brokenMachines() {
		fails("the machine", m, lit(), anything(m))
	}
	for what, c := range brokenCurrents() {
		fails(what, toy(), c, anything(toy()))
	}
	for what, r := range brokenReadings() {
		fails(what, toy(), lit(), r)
	}
}
