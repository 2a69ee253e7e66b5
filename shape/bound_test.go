package shape_test

import (
	"math/rand"
	"slices"
	"testing"

	"shotdesk/api"
	"shotdesk/shape"
)

// sample is a shape no two spans of which are the same.
func sample() api.Shape {
	return api.Shape{
		Radius: sp(4200, 4700), Height: sp(-300, 250), Area: sp(9, 12), Top: sp(2, 6),
		Bottom: sp(-7, -4), Inner: sp(1, 3), Outer: sp(10, 14), Lift: sp(-40, 80),
	}
}

// spansOf returns the places of a shape's spans by the kinds of bounds.
func spansOf(s *api.Shape) map[int]*api.Span {
	return map[int]*api.Span{
		api.BRadius: &s.Radius, api.BHeight: &s.Height, api.BArea: &s.Area, api.BTop: &s.Top,
		api.BBottom: &s.Bottom, api.BInner: &s.Inner, api.BOuter: &s.Outer, api.BLift: &s.Lift,
	}
}

// wrongSpans are spans that are not valid.
func wrongSpans() []api.Span {
	return append(box(1, 0, 0, -1, api.MaxValue, -api.MaxValue, -api.MaxValue-1, 0, 0, api.MaxValue+1),
		box(wild[0], wild[5], wild[5], wild[0], wild[5], wild[5], wild[0], wild[0], 0, wild[4], wild[1], 0)...)
}

// 6.4
func TestValidBounds(t *testing.T) {
	good := []api.Bound{{Kind: api.BRadius, Keep: sp(0, 5)}, {Kind: api.BLift, Keep: sp(-api.MaxValue, api.MaxValue)}}
	valid := func(want bool, l ...api.Bound) {
		t.Helper()
		if shape.ValidBounds(l) != want {
			t.Errorf("ValidBounds of %v = %v", l, !want)
		}
	}
	valid(true)
	valid(true, good...)
	for kind := 1; kind <= 8; kind++ {
		valid(true, api.Bound{Kind: kind, Keep: sp(3, 3)})
		valid(true, slices.Repeat([]api.Bound{{Kind: kind}}, 16)...)
		valid(false, slices.Repeat([]api.Bound{{Kind: kind}}, 17)...)
		for _, a := range wrongSpans() {
			valid(false, api.Bound{Kind: kind, Keep: a})
			valid(false, good[0], good[1], api.Bound{Kind: kind, Keep: a})
			valid(false, api.Bound{Kind: kind, Keep: a}, good[0])
		}
	}
	for _, kind := range append([]int{-1, 0, 9, 10}, wild...) {
		valid(false, api.Bound{Kind: kind, Keep: sp(0, 5)})
		valid(false, good[0], good[1], api.Bound{Kind: kind, Keep: sp(0, 5)})
		valid(false, api.Bound{Kind: kind, Keep: sp(0, 5)}, good[0])
	}
	valid(false, slices.Repeat(good, 5000)...)
}

// 6.4
func TestValidShape(t *testing.T) {
	same(t, "ValidShape", shape.ValidShape(sample()), true)
	same(t, "ValidShape of zeros", shape.ValidShape(api.Shape{}), true)
	for kind := 1; kind <= 8; kind++ {
		for _, a := range box(-api.MaxValue, api.MaxValue, api.MaxValue, api.MaxValue, -5, -5) {
			s := sample()
			*spansOf(&s)[kind] = a
			same(t, "ValidShape", shape.ValidShape(s), true)
		}
		for _, a := range wrongSpans() {
			s := sample()
			*spansOf(&s)[kind] = a
			same(t, "ValidShape of a wrong span", shape.ValidShape(s), false)
		}
	}
}

// 6.4
func TestQuantity(t *testing.T) {
	s := sample()
	for kind, a := range spansOf(&s) {
		is(t, "Quantity", *a)(shape.Quantity(s, kind))
	}
	for _, kind := range append([]int{-1, 0, 9, 10}, wild...) {
		none[api.Span](t, "Quantity of no kind", api.ErrRange)(shape.Quantity(s, kind))
	}
}

// 6.4
func TestKept(t *testing.T) {
	s := sample()
	gives[api.Truth](t, "Kept of nothing")(shape.Kept(nil, s))
	for kind, a := range spansOf(&s) {
		for _, x := range []struct {
			keep api.Span
			want api.Truth
		}{
			{*a, api.Yes}, {sp(a.Lo-1, a.Hi+1), api.Yes}, {sp(-api.MaxValue, api.MaxValue), api.Yes},
			{sp(a.Lo+1, a.Hi), api.Maybe}, {sp(a.Lo, a.Hi-1), api.Maybe}, {sp(a.Lo-5, a.Lo), api.Maybe}, {sp(a.Hi, a.Hi+5), api.Maybe},
			{sp(a.Lo+1, a.Lo+1), api.Maybe},
			{sp(a.Lo-5, a.Lo-1), api.No}, {sp(a.Hi+1, a.Hi+5), api.No}, {sp(api.MaxValue, api.MaxValue), api.No},
		} {
			gives(t, "Kept", x.want)(shape.Kept([]api.Bound{{Kind: kind, Keep: x.keep}}, s))
		}
	}
	gives(t, "Kept of several", api.Yes, api.No, api.Maybe, api.No, api.Yes)(shape.Kept([]api.Bound{
		{Kind: api.BArea, Keep: sp(9, 12)}, {Kind: api.BRadius, Keep: sp(9, 12)}, {Kind: api.BOuter, Keep: sp(9, 12)},
		{Kind: api.BArea, Keep: sp(0, 8)}, {Kind: api.BArea, Keep: sp(0, 20)},
	}, s))
	gives(t, "Kept of 16", slices.Repeat([]api.Truth{api.No}, 16)...)(shape.Kept(slices.Repeat([]api.Bound{{Kind: api.BTop}}, 16), s))
}

// Details: Kept of a shape with quantities that are points is never Maybe
func TestKeptOfPoints(t *testing.T) {
	r := rand.New(rand.NewSource(7))
	seen := map[api.Truth]int{}
	for range 2000 {
		var s api.Shape
		var l []api.Bound
		for kind, a := range spansOf(&s) {
			n, low := r.Intn(21)-10, r.Intn(21)-10
			*a = sp(n, n)
			l = append(l, api.Bound{Kind: kind, Keep: sp(low, low+r.Intn(8))})
		}
		kept, e := shape.Kept(l, s)
		if e != api.OK || len(kept) != 8 {
			t.Fatalf("Kept = %v, %d", kept, e)
		}
		for i, b := range l {
			n := spansOf(&s)[b.Kind].Lo
			want := api.No
			if b.Keep.Lo <= n && n <= b.Keep.Hi {
				want = api.Yes
			}
			seen[want]++
			same(t, "Kept of a point", kept[i], want)
		}
	}
	if seen[api.Yes] < 1000 || seen[api.No] < 1000 {
		t.Errorf("too few cases: %v", seen)
	}
}

// moved returns a check for what Moved tells.
func moved(t *testing.T, r, z api.Span, want api.Errno) func(gotR, gotZ api.Span, e api.Errno) {
	t.Helper()
	return func(gotR, gotZ api.Span, e api.Errno) {
		t.Helper()
		if gotR != r || gotZ != z || e != want {
			t.Errorf("Moved = %v, %v, %d, not %v, %v, %d", gotR, gotZ, e, r, z, want)
		}
	}
}

// 6.4
func TestMoved(t *testing.T) {
	a, b := sample(), sample()
	b.Radius, b.Height = sp(4500, 5000), sp(-100, -50)
	moved(t, sp(-200, 800), sp(-350, 250), api.OK)(shape.Moved(a, b))
	moved(t, sp(-800, 200), sp(-250, 350), api.OK)(shape.Moved(b, a))
	moved(t, sp(-500, 500), sp(-550, 550), api.OK)(shape.Moved(a, a))
	moved(t, sp(0, 0), sp(0, 0), api.OK)(shape.Moved(api.Shape{}, api.Shape{}))
	// the other spans do not matter, but must be valid
	b.Area, b.Top, b.Lift = sp(0, 0), sp(-api.MaxValue, api.MaxValue), sp(1, 1)
	moved(t, sp(-200, 800), sp(-350, 250), api.OK)(shape.Moved(a, b))
	b.Lift = sp(1, 0)
	moved(t, api.Span{}, api.Span{}, api.ErrInvalid)(shape.Moved(a, b))
	moved(t, api.Span{}, api.Span{}, api.ErrInvalid)(shape.Moved(b, a))
}

// 6.4: ErrBig
func TestMovedTooFar(t *testing.T) {
	const far = api.MaxValue
	shapeAt := func(r, z api.Span) api.Shape { return api.Shape{Radius: r, Height: z} }
	for _, x := range []struct {
		a, b, want api.Span
		e          api.Errno
	}{
		{sp(0, 0), sp(-far, far), sp(-far, far), api.OK}, {sp(-far, far), sp(0, 0), sp(-far, far), api.OK},
		{sp(1, 1), sp(1-far, far), sp(-far, far-1), api.OK}, {sp(-far, -far), sp(-far, 0), sp(0, far), api.OK},
		{sp(1, 1), sp(-far, far), api.Span{}, api.ErrBig}, {sp(-1, -1), sp(0, far), api.Span{}, api.ErrBig},
		{sp(-1, 0), sp(far, far), api.Span{}, api.ErrBig}, {sp(0, far), sp(-1, 0), api.Span{}, api.ErrBig},
		{sp(-far, far), sp(-far, far), api.Span{}, api.ErrBig},
	} {
		still := api.Span{}
		if x.e == api.OK {
			still = sp(2, 2)
		}
		moved(t, x.want, still, x.e)(shape.Moved(shapeAt(x.a, sp(3, 3)), shapeAt(x.b, sp(5, 5))))
		moved(t, still, x.want, x.e)(shape.Moved(shapeAt(sp(3, 3), x.a), shapeAt(sp(5, 5), x.b)))
	}
}
