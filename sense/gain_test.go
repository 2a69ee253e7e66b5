package sense_test

import (
	"math/big"
	"math/rand"
	"slices"
	"testing"

	"shotdesk/api"
	"shotdesk/sense"
	"shotdesk/span"
)

const (
	most    = api.MaxValue
	maxGain = 1000000000
)

func pr(value, lo, hi int) api.Pair { return api.Pair{Value: value, Reading: sp(lo, hi)} }

// 4.4, Details and the example
func TestGain(t *testing.T) {
	for _, c := range []struct {
		x    api.Pair
		want api.Span
		e    api.Errno
	}{
		{pr(500, 490, 520), sp(980, 1040), api.OK},
		{pr(-500, 490, 520), sp(-1040, -980), api.OK},
		{pr(500, -520, -490), sp(-1040, -980), api.OK},
		{pr(-500, -520, -490), sp(980, 1040), api.OK},
		{pr(7, 1, 1), sp(142, 143), api.OK},
		{pr(7, -1, -1), sp(-143, -142), api.OK},
		{pr(-7, 1, 1), sp(-143, -142), api.OK},
		{pr(-7, -1, -1), sp(142, 143), api.OK},
		{pr(7, -1, 1), sp(-143, 143), api.OK},
		{pr(-7, -2, 1), sp(-143, 286), api.OK},
		{pr(1000, 5, 9), sp(5, 9), api.OK},
		{pr(3, 0, 0), sp(0, 0), api.OK},
		{pr(0, 0, 0), sp(-maxGain, maxGain), api.OK},
		{pr(0, -5, 5), sp(-maxGain, maxGain), api.OK},
		{pr(0, 1, 5), api.Span{}, api.ErrNone},
		{pr(0, -5, -1), api.Span{}, api.ErrNone},
		{pr(most, most, most), sp(1000, 1000), api.OK},
		{pr(most, -most, most), sp(-1000, 1000), api.OK},
		{pr(-most, 1-most, most), sp(-1000, 1000), api.OK},
		{pr(most, 1, 1), sp(0, 1), api.OK},
		{pr(1, 1-most, 0), api.Span{}, api.ErrBig},
		{pr(1, most, most), api.Span{}, api.ErrBig},
		{pr(-1, 0, most), api.Span{}, api.ErrBig},
		{pr(1000, -most, most), sp(-most, most), api.OK},
		{pr(999, most, most), api.Span{}, api.ErrBig},
		{pr(1, -most/1000, most/1000), sp(-most, most), api.OK},
		{pr(1, 0, most/1000+1), api.Span{}, api.ErrBig},
		{pr(1, -most/1000-1, 0), api.Span{}, api.ErrBig},
	} {
		if a, e := sense.Gain(c.x); a != c.want || e != c.e {
			t.Errorf("Gain of %v = %v, %d, want %v, %d", c.x, a, e, c.want, c.e)
		}
	}
	for _, x := range brokenPairs() {
		if a, e := sense.Gain(x); a != (api.Span{}) || e != api.ErrInvalid {
			t.Errorf("Gain of %v = %v, %d", x, a, e)
		}
	}
}

func brokenPairs() []api.Pair {
	var l []api.Pair
	for _, n := range wild {
		l = append(l, pr(n, 0, 0))
	}
	for _, a := range brokenSpans() {
		l = append(l, api.Pair{Value: 0, Reading: a}, api.Pair{Value: 5, Reading: a})
	}
	return l
}

// 4.4 and Details
func TestCalibrate(t *testing.T) {
	for _, c := range []struct {
		l      []api.Pair
		want   api.Span
		e      api.Errno
		broken int
	}{
		{nil, sp(-maxGain, maxGain), api.OK, -1},
		{[]api.Pair{}, sp(-maxGain, maxGain), api.OK, -1},
		{[]api.Pair{pr(500, 490, 520)}, sp(980, 1040), api.OK, -1},
		{[]api.Pair{pr(500, 490, 520), pr(0, -1, 1), pr(1000, 1000, 1100)}, sp(1000, 1040), api.OK, -1},
		{[]api.Pair{pr(500, 490, 520), pr(1000, 1040, 1100)}, sp(1040, 1040), api.OK, -1},
		{[]api.Pair{pr(500, 490, 520), pr(1000, 1041, 1100)}, api.Span{}, api.ErrNone, 1},
		{[]api.Pair{pr(1000, 1041, 1100), pr(0, 0, 0), pr(500, 490, 520), pr(0, 1, 1)}, api.Span{}, api.ErrNone, 2},
		{[]api.Pair{pr(1000, 1, 3), pr(1000, 5, 9), pr(1000, 1, 9)}, api.Span{}, api.ErrNone, 1},
		{[]api.Pair{pr(1000, 1, 3), pr(1000, 2, 9), pr(1000, 4, 9)}, api.Span{}, api.ErrNone, 2},
		{[]api.Pair{pr(0, 1, 1)}, api.Span{}, api.ErrNone, 0},
		{[]api.Pair{pr(0, 0, 1)}, sp(-maxGain, maxGain), api.OK, -1},
		// gains beyond 1,000,000,000 do not count, also where Gain is ErrBig
		{[]api.Pair{pr(1, most, most)}, api.Span{}, api.ErrNone, 0},
		{[]api.Pair{pr(1, -most, -most)}, api.Span{}, api.ErrNone, 0},
		{[]api.Pair{pr(-1, most, most), pr(1, 1, 1)}, api.Span{}, api.ErrNone, 0},
		{[]api.Pair{pr(1, -5, most)}, sp(-5000, maxGain), api.OK, -1},
		{[]api.Pair{pr(-1, -5, most)}, sp(-maxGain, 5000), api.OK, -1},
		{[]api.Pair{pr(1, -most, most)}, sp(-maxGain, maxGain), api.OK, -1},
		{[]api.Pair{pr(1000, maxGain, maxGain)}, sp(maxGain, maxGain), api.OK, -1},
		{[]api.Pair{pr(1000, maxGain+1, most)}, api.Span{}, api.ErrNone, 0},
		{[]api.Pair{pr(1000, -most, -maxGain)}, sp(-maxGain, -maxGain), api.OK, -1},
		{[]api.Pair{pr(1000, -most, -maxGain-1)}, api.Span{}, api.ErrNone, 0},
	} {
		if a, e := sense.Calibrate(c.l); a != c.want || e != c.e {
			t.Errorf("Calibrate of %v = %v, %d, want %v, %d", c.l, a, e, c.want, c.e)
		}
		if i := sense.Broken(c.l); i != c.broken {
			t.Errorf("Broken of %v = %d, want %d", c.l, i, c.broken)
		}
	}
	for _, x := range brokenPairs() {
		for _, l := range [][]api.Pair{{x}, {x, pr(0, 1, 1)}, {pr(0, 1, 1), x}, {pr(5, 5, 5), x, pr(5, 5, 5)}} {
			if a, e := sense.Calibrate(l); a != (api.Span{}) || e != api.ErrInvalid {
				t.Errorf("Calibrate of %v = %v, %d", l, a, e)
			}
			if i := sense.Broken(l); i != -1 {
				t.Errorf("Broken of %v = %d", l, i)
			}
		}
	}
}

func somePair(r *rand.Rand) api.Pair {
	sign := func() int { return 1 - 2*r.Intn(2) }
	value := sign() * []int{r.Intn(4), r.Intn(2000), r.Intn(most + 1)}[r.Intn(3)]
	gain := 1000 + r.Intn(21) - 10
	if r.Intn(9) == 0 {
		gain = r.Intn(most)
	}
	// the product of a great value and a great gain may wrap around; it is cut, as any reading does
	reading := max(-most, min(value/1000*gain+value%1000*gain/1000, most))
	return pr(value, max(-most, reading-upTo(r, 1e6)), min(most, reading+upTo(r, 1e6)))
}

// 4.4: Gain against big numbers
func TestGainModel(t *testing.T) {
	r := rand.New(rand.NewSource(10))
	for range 5000 {
		x := somePair(r)
		if x.Value == 0 {
			continue
		}
		part := func(n int) *big.Rat {
			return big.NewRat(int64(n)*1000, int64(x.Value))
		}
		low, high := part(x.Reading.Lo), part(x.Reading.Hi)
		if low.Cmp(high) > 0 {
			low, high = high, low
		}
		lo := new(big.Int).Div(low.Num(), low.Denom())
		hi := new(big.Int).Neg(new(big.Int).Div(new(big.Int).Neg(high.Num()), high.Denom()))
		want, e := sp(int(lo.Int64()), int(hi.Int64())), api.OK
		if !span.Valid(want) {
			want, e = api.Span{}, api.ErrBig
		}
		if a, got := sense.Gain(x); a != want || got != e {
			t.Errorf("Gain of %v = %v, %d, want %v, %d", x, a, got, want, e)
		}
	}
}

// explains reports whether Value * g / 1,000 lies in the reading.
func explains(x api.Pair, g int) bool {
	n := new(big.Int).Mul(big.NewInt(int64(x.Value)), big.NewInt(int64(g)))
	thousand := func(n int) *big.Int { return new(big.Int).Mul(big.NewInt(int64(n)), big.NewInt(1000)) }
	return thousand(x.Reading.Lo).Cmp(n) <= 0 && n.Cmp(thousand(x.Reading.Hi)) <= 0
}

// P4.5
func TestCalibrateKeeps(t *testing.T) {
	r := rand.New(rand.NewSource(11))
	broken := 0
	for range 400 {
		var l []api.Pair
		for range r.Intn(5) {
			l = append(l, somePair(r))
		}
		a, e := sense.Calibrate(l)
		for g := range 2000 {
			g -= 500
			fits := !slices.ContainsFunc(l, func(x api.Pair) bool { return !explains(x, g) })
			if fits && (e != api.OK || !span.Contains(a, g)) {
				t.Fatalf("Calibrate of %v = %v, %d without the gain %d", l, a, e, g)
			}
		}
		at := -1
		for i := range l {
			if _, e := sense.Calibrate(l[:i+1]); e == api.ErrNone && at < 0 {
				at = i
			}
		}
		if i := sense.Broken(l); i != at || (i < 0) != (e != api.ErrNone) {
			t.Errorf("Broken of %v = %d, want %d, and Calibrate %d", l, i, at, e)
		}
		if at >= 0 {
			broken++
		}
	}
	if broken < 20 || broken > 380 {
		t.Errorf("%d of 400 were broken", broken)
	}
}

// 4.4: Calibrate is the meet of the gains, where all of these are spans
func TestCalibrateMeets(t *testing.T) {
	r := rand.New(rand.NewSource(12))
	for range 2000 {
		want, e := sp(-maxGain, maxGain), api.OK
		l := []api.Pair{somePair(r), somePair(r)}
		for _, x := range l {
			a, bad := sense.Gain(x)
			if bad != api.OK || e != api.OK {
				e = max(e, bad)
				continue
			}
			want, e = span.Meet(want, a)
		}
		if e == api.ErrBig {
			continue
		}
		if a, got := sense.Calibrate(l); a != want || got != e {
			t.Errorf("Calibrate of %v = %v, %d, want %v, %d", l, a, got, want, e)
		}
	}
}
