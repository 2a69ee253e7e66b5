package sense_test

import (
	"math/big"
	"math/rand"
	"slices"
	"testing"

	"shotdesk/api"
	"shotdesk/machine"
	"shotdesk/sense"
)

// 4.1 and the section Readings
func TestValidFaults(t *testing.T) {
	many := slices.Repeat([]api.Fault{{Kind: api.FCut}}, api.MaxFaults)
	valid := [][]api.Fault{
		nil, {}, many,
		{{At: 0, Sensor: 0, Kind: api.FOffset, N: api.MaxValue}, {At: lastTick, Sensor: 3, Kind: api.FOffset, N: -api.MaxValue}},
		{{At: 1, Sensor: 1, Kind: api.FGain, N: 100000}, {At: 0, Sensor: 2, Kind: api.FGain, N: -100000}, {Sensor: 2, Kind: api.FGain}},
		{{At: 7, Sensor: 3, Kind: api.FCut}, {At: 7, Sensor: 3, Kind: api.FCut}},
	}
	for _, l := range valid {
		if !sense.ValidFaults(toy(), l) {
			t.Errorf("%v are not valid", l)
		}
		for _, m := range brokenMachines() {
			if sense.ValidFaults(m, l) {
				t.Errorf("%v are valid for a machine that is not", l)
			}
		}
	}
	for _, l := range brokenFaults() {
		if sense.ValidFaults(toy(), l) {
			t.Errorf("%v are valid", l)
		}
	}
	if sense.ValidFaults(bare(), []api.Fault{{Kind: api.FCut}}) || !sense.ValidFaults(bare(), nil) {
		t.Error("the faults of a machine without sensors")
	}
}

// brokenFaults are not valid for the toy.
func brokenFaults() [][]api.Fault {
	bad := []api.Fault{
		{}, {Kind: 4}, {Kind: -1},
		{Kind: api.FGain, N: 100001}, {Kind: api.FGain, N: -100001}, {Kind: api.FCut, N: 1}, {Kind: api.FCut, N: -1},
		{Kind: api.FGain, N: api.MaxValue}, {Kind: api.FCut, N: 100000},
	}
	for _, n := range wild {
		bad = append(bad, api.Fault{Kind: n}, api.Fault{Kind: api.FOffset, N: n}, api.Fault{Kind: api.FGain, N: n}, api.Fault{Kind: api.FCut, N: n})
	}
	for kind := api.FOffset; kind <= api.FCut; kind++ {
		for _, n := range outside(lastTick) {
			bad = append(bad, api.Fault{At: n, Kind: kind})
		}
		for _, n := range outside(3) {
			bad = append(bad, api.Fault{Sensor: n, Kind: kind})
		}
	}
	l := [][]api.Fault{slices.Repeat([]api.Fault{{Kind: api.FCut}}, api.MaxFaults+1)}
	for _, f := range bad {
		l = append(l, []api.Fault{f}, []api.Fault{{Kind: api.FCut}, f}, []api.Fault{f, {Kind: api.FCut}})
	}
	return l
}

// 4.1
func TestValidReadings(t *testing.T) {
	for _, r := range [][]api.Span{anything(toy()), {sp(0, 0), sp(-1, 1), sp(5, 7), sp(api.MaxValue, api.MaxValue)}} {
		if !sense.ValidReadings(toy(), r) {
			t.Errorf("%v are not valid", r)
		}
		for _, m := range brokenMachines() {
			if sense.ValidReadings(m, r) || sense.ValidReadings(m, r[:len(m.Sensors)]) {
				t.Errorf("%v are valid for a machine that is not", r)
			}
		}
	}
	for what, r := range brokenReadings() {
		if sense.ValidReadings(toy(), r) {
			t.Errorf("%s: the readings are valid", what)
		}
	}
	if !sense.ValidReadings(bare(), nil) || !sense.ValidReadings(bare(), []api.Span{}) || sense.ValidReadings(bare(), []api.Span{{}}) {
		t.Error("the readings of a machine without sensors")
	}
}

// 4.1
func TestMix(t *testing.T) {
	const most = 1<<32 - 1
	for _, c := range [][4]uint32{
		{0, 0, 0, 0}, {1, 0, 0, 2650827656}, {0, 1, 0, 2650827656}, {0, 0, 1, 4068589060}, {1, 2, 3, 849856619}, {3, 2, 1, 1358095133},
		{most, most, most, 1587718856}, {2654435761, 1000000000, 23, 1217842094}, {123456789, 5, 0, 535041929}, {123456789, 5, 3, 108804516},
	} {
		if h := sense.Mix(c[0], c[1], c[2]); h != c[3] {
			t.Errorf("Mix of %d, %d, %d = %d, want %d", c[0], c[1], c[2], h, c[3])
		}
	}
}

// reads is Read of the toy's currents at a tick, with the seed 0, which at the tick 0 leaves the flux sensor the error -10, that at its least.
func reads(t *testing.T, s api.Scene, tick int) []api.Span {
	t.Helper()
	r, e := sense.Read(toy(), lit(), s, tick)
	if e != api.OK || len(r) != 4 {
		t.Fatalf("Read = %v, %d", r, e)
	}
	return r
}

// 4.1: the errors, each sensor with its own
func TestReadErrors(t *testing.T) {
	// Mix of the seed, 5 and 0, 1, 2, 3 leaves the errors 10, 0, 3, 5 these
	noise := []int{-8, 0, 0, 2}
	r := reads(t, api.Scene{Seed: 123456789}, 5)
	for k, s := range toy().Sensors {
		value, _ := machine.Exact(toy(), lit(), k)
		if want := sp(value+noise[k]-s.Error, value+noise[k]+s.Error); r[k] != want {
			t.Errorf("the sensor %d reads %v, want %v", k, r[k], want)
		}
	}
	if r := reads(t, api.Scene{}, 0); r[0] != sp(flux-20, flux) {
		t.Errorf("the least error leaves %v", r[0])
	}
	m := bare(api.Sensor{Name: "s", Kind: api.SFlux, Error: 1e9})
	if r, e := sense.Read(m, api.Currents{Plasma: []int{3}}, api.Scene{Seed: 1}, 0); e != api.OK || !slices.Equal(r, []api.Span{sp(750000-349172345-1e9, 750000-349172345+1e9)}) {
		t.Errorf("Read with a great error = %v, %d", r, e)
	}
	if r, e := sense.Read(bare(), api.Currents{Plasma: []int{3}}, api.Scene{}, 0); e != api.OK || len(r) != 0 {
		t.Errorf("Read without sensors = %v, %d", r, e)
	}
}

// flux is what the toy's flux sensor reads of its currents.
const flux = 1000 + 34482 + 20*22222 + 300*20408 + 4000*15384

// 4.1 and Details: what faults do to the flux sensor, and from when on
func TestReadFaults(t *testing.T) {
	const half = api.MaxValue / 2
	offset := func(at, n int) api.Fault { return api.Fault{At: at, Kind: api.FOffset, N: n} }
	gain := func(at, n int) api.Fault { return api.Fault{At: at, Kind: api.FGain, N: n} }
	gone := func(at int) api.Fault { return api.Fault{At: at, Kind: api.FCut} }
	for _, c := range []struct {
		what string
		l    []api.Fault
		want int
	}{
		{"none", nil, flux},
		{"an offset", []api.Fault{offset(0, 5)}, flux + 5},
		{"an offset down", []api.Fault{offset(0, -2*flux)}, -flux},
		{"a gain", []api.Fault{gain(0, 2000)}, 2 * flux},
		{"a gain rounded down", []api.Fault{gain(0, 1)}, flux / 1000},
		{"a gain below 0 rounded down", []api.Fault{gain(0, -1)}, -flux/1000 - 1},
		{"the gain 0", []api.Fault{gain(0, 0)}, 0},
		{"a gain of little", []api.Fault{gone(0), offset(0, -1), gain(0, 1)}, -1},
		{"a cut", []api.Fault{gone(0)}, 0},
		{"in order", []api.Fault{gone(0), offset(0, 7), gain(0, 3000)}, 21},
		{"in another order", []api.Fault{gone(0), gain(0, 3000), offset(0, 7)}, 7},
		{"not by their ticks", []api.Fault{offset(60, 7), gain(50, 0)}, 0},
		{"one that is yet to come", []api.Fault{offset(61, 5)}, flux},
		{"one that comes now", []api.Fault{offset(60, 5)}, flux + 5},
		{"one that comes later than the next", []api.Fault{gone(61), offset(60, 5)}, flux + 5},
		{"another sensor's", []api.Fault{{Sensor: 1, Kind: api.FCut}}, flux},
		{"too much", []api.Fault{offset(0, api.MaxValue)}, half},
		{"too little", []api.Fault{offset(0, -api.MaxValue)}, -half},
		{"too much for the next one", []api.Fault{offset(0, api.MaxValue), offset(0, -api.MaxValue)}, -half},
		{"just too much", []api.Fault{offset(0, half-flux+1), offset(0, -half)}, 0},
		{"just enough", []api.Fault{offset(0, half-flux), offset(0, -half)}, 0},
		{"a gain beyond 64 bits", []api.Fault{offset(0, api.MaxValue), gain(0, 100000)}, half},
		{"a gain beyond 64 bits down", []api.Fault{offset(0, api.MaxValue), gain(0, -100000)}, -half},
		{"a gain of much that is little", []api.Fault{offset(0, api.MaxValue), gain(0, 1)}, half / 1000},
		{"a gain of much below 0", []api.Fault{offset(0, -api.MaxValue), offset(0, 1), gain(0, 1)}, -half / 1000},
	} {
		// at the tick 60 the seed 7 gives the flux sensor its own error
		s := api.Scene{Seed: 7, Faults: c.l}
		noise := int(sense.Mix(7, 60, 0)%21) - 10
		if r := reads(t, s, 60); r[0] != sp(c.want+noise-10, c.want+noise+10) {
			t.Errorf("%s: the sensor reads %v, less its error it should be %d", c.what, r[0], c.want)
		}
	}
}

// 4.1: what does not matter
func TestReadPushes(t *testing.T) {
	s := api.Scene{Seed: 3, Faults: []api.Fault{{Kind: api.FGain, N: 1100}}}
	want := reads(t, s, 9)
	s.Pushes = slices.Repeat([]api.Push{{At: -1, Coil: 99, Change: wild[0]}, {Change: 5}}, 100)
	if r := reads(t, s, 9); !slices.Equal(r, want) {
		t.Errorf("with pushes the sensors read %v, not %v", r, want)
	}
}

// 4.1: the errors in their order
func TestReadInvalid(t *testing.T) {
	fails := func(what string, m api.Machine, c api.Currents, l []api.Fault, tick int, want api.Errno) {
		t.Helper()
		if r, e := sense.Read(m, c, api.Scene{Faults: l}, tick); len(r) != 0 || e != want {
			t.Errorf("%s: Read = %v, %d, want %d", what, r, e, want)
		}
	}
	for _, tick := range []int{0, -1, lastTick + 1} {
		for _, m := range brokenMachines() {
			fails("the machine", m, lit(), nil, tick, api.ErrInvalid)
		}
		for what, c := range brokenCurrents() {
			fails(what, toy(), c, nil, tick, api.ErrInvalid)
		}
		for _, l := range brokenFaults() {
			fails("the faults", toy(), lit(), l, tick, api.ErrInvalid)
		}
	}
	for _, tick := range outside(lastTick) {
		fails("the tick", toy(), lit(), []api.Fault{{Kind: api.FCut}}, tick, api.ErrRange)
	}
	reads(t, api.Scene{}, 0)
	reads(t, api.Scene{}, lastTick)
}

// modelRead is what the chapter says of a sensor's reading, in big numbers.
func modelRead(m api.Machine, c api.Currents, s api.Scene, tick, k int) api.Span {
	exact, _ := machine.Exact(m, c, k)
	value, half := big.NewInt(int64(exact)), big.NewInt(api.MaxValue/2)
	for _, f := range s.Faults {
		if f.Sensor != k || f.At > tick {
			continue
		}
		switch f.Kind {
		case api.FOffset:
			value.Add(value, big.NewInt(int64(f.N)))
		case api.FGain:
			value.Mul(value, big.NewInt(int64(f.N)))
			value.Div(value, big.NewInt(1000)) // of numbers above 0, Div rounds down
		case api.FCut:
			value.SetInt64(0)
		}
		if value.CmpAbs(half) > 0 {
			value.Mul(half, big.NewInt(int64(value.Sign())))
		}
	}
	width := uint64(2*m.Sensors[k].Error + 1)
	h := uint64(s.Seed)
	for _, v := range []int{tick, k} {
		h = (h ^ uint64(v)) * 2654435761 % (1 << 32)
		h = (h ^ h/(1<<15)) * 2246822507 % (1 << 32)
		h ^= h / (1 << 13)
	}
	middle := int(value.Int64()) + int(h%width) - m.Sensors[k].Error
	return sp(middle-m.Sensors[k].Error, middle+m.Sensors[k].Error)
}

// 4.1: Read against the model
func TestReadModel(t *testing.T) {
	r := rand.New(rand.NewSource(1))
	for range 300 {
		m, c := some(r, 1+r.Intn(6))
		s := api.Scene{Seed: r.Uint32(), Faults: someFaults(r, m)}
		tick := upTo(r, lastTick)
		got, e := sense.Read(m, c, s, tick)
		if e != api.OK || len(got) != len(m.Sensors) || !sense.ValidReadings(m, got) {
			t.Fatalf("Read = %v, %d", got, e)
		}
		for k := range got {
			if want := modelRead(m, c, s, tick, k); got[k] != want {
				t.Errorf("with %v at %d the sensor %d reads %v, want %v", s, tick, k, got[k], want)
			}
		}
	}
}
