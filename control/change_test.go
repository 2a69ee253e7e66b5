package control_test

import (
	"math"
	"math/rand"
	"testing"

	"shotdesk/api"
	"shotdesk/circuit"
	"shotdesk/control"
)

// 7.2
func TestPart(t *testing.T) {
	wish := []int{800, -800, 15, -15, 7, -7, 1, 0}
	for n, want := range [][]int{
		{0, 0, 0, 0, 0, 0, 0, 0},
		{100, -100, 1, -1, 0, 0, 0, 0},
		{200, -200, 3, -3, 1, -1, 0, 0},
		{300, -300, 5, -5, 2, -2, 0, 0},
		{400, -400, 7, -7, 3, -3, 0, 0},
		{500, -500, 9, -9, 4, -4, 0, 0},
		{600, -600, 11, -11, 5, -5, 0, 0},
		{700, -700, 13, -13, 6, -6, 0, 0},
		{800, -800, 15, -15, 7, -7, 1, 0},
	} {
		gives(t, "Part", want...)(control.Part(wish, n))
	}
	gives(t, "Part", 875000000000000, -875000000000000)(control.Part([]int{api.MaxValue, -api.MaxValue}, 7))
	// of any length
	gives[int](t, "Part of nothing")(control.Part(nil, 3))
	gives(t, "Part of many", make([]int, 100000)...)(control.Part(make([]int, 100000), 3))
}

// 7.2
func TestPartOfNoWish(t *testing.T) {
	for _, n := range wild {
		none[int](t, "Part", api.ErrInvalid)(control.Part([]int{5, n}, 3))
		none[int](t, "Part", api.ErrRange)(control.Part([]int{5}, n))
		none[int](t, "Part", api.ErrInvalid)(control.Part([]int{n}, -1))
	}
	none[int](t, "Part", api.ErrRange)(control.Part([]int{5}, -1))
	none[int](t, "Part", api.ErrRange)(control.Part([]int{5}, 9))
	none[int](t, "Part", api.ErrRange)(control.Part(nil, 9))
}

// 7.2
func TestFall(t *testing.T) {
	m, c := pair()
	s, _ := circuit.Begin(m)
	s.C = c
	for _, x := range []struct{ a, b, first, second int }{
		{0, 0, 0, 0}, {999, -79, -999, 79}, {1000, -80, -1000, 80}, {1001, -81, -1000, 80}, {-5000, 500, 1000, -80},
		{-1, 1, 1, -1}, {api.MaxAmp, -api.MaxAmp, -1000, 80},
	} {
		s.C.Coils = []int{x.a, x.b}
		gives(t, "Fall", x.first, x.second)(control.Fall(m, s))
	}
	// a trip changes nothing of it, nor does the last tick
	s.C.Coils, s.Tripped, s.Tick = []int{999, -500}, []bool{true, true}, lastTick
	gives(t, "Fall", -999, 80)(control.Fall(m, s))
	s.Tick++
	none[int](t, "Fall", api.ErrInvalid)(control.Fall(m, s))
	none[int](t, "Fall", api.ErrInvalid)(control.Fall(api.Machine{}, api.State{}))
}

// atMost is a machine with a coil that has these limits, and a state of it with a current.
func atMost(maxCurrent, maxStep, current int) (api.Machine, api.State) {
	m, s := lone()
	m.Coils[0].MaxCurrent, m.Coils[0].MaxStep = maxCurrent, maxStep
	s.C.Coils[0] = current
	return m, s
}

// 7.3
func TestRoom(t *testing.T) {
	for _, c := range []struct{ maxCurrent, maxStep, current, lo, hi int }{
		{1000, 300, 0, -300, 300}, {1000, 300, 900, -300, 100}, {1000, 300, -900, -100, 300},
		{1000, 300, 700, -300, 300}, {1000, 300, 701, -300, 299}, {1000, 300, -701, -299, 300},
		{1000, 300, 1000, -300, 0}, {1000, 300, -1000, 0, 300},
		{1000, 300, 1001, 0, 0}, {1000, 300, -1001, 0, 0}, {1000, 300, api.MaxAmp, 0, 0},
		{100, 300, 0, -100, 100}, {100, 300, 40, -140, 60}, {100, 300, 100, -200, 0}, {100, 300, -100, 0, 200},
		{1, 1, 1, -1, 0}, {api.MaxAmp, api.MaxAmp, api.MaxAmp, -api.MaxAmp, 0},
	} {
		m, s := atMost(c.maxCurrent, c.maxStep, c.current)
		gives(t, "Room", sp(c.lo, c.hi))(control.Room(m, s))
		s.Tripped[0] = true
		gives(t, "Room of a tripped coil", sp(0, 0))(control.Room(m, s))
	}
	m, c := pair()
	s, _ := circuit.Begin(m)
	s.C, s.Tripped[0] = c, true
	gives(t, "Room", sp(0, 0), sp(-80, 80))(control.Room(m, s))
	none[api.Span](t, "Room", api.ErrInvalid)(control.Room(m, api.State{}))
	none[api.Span](t, "Room", api.ErrInvalid)(control.Room(api.Machine{}, s))
}

// 7.3
func TestCut(t *testing.T) {
	m, c := pair()
	s, _ := circuit.Begin(m)
	s.C = c
	s.C.Coils = []int{4100, -450}
	// the rooms are -1000..900 and -50..80
	gives[int](t, "Cut")(control.Cut(m, s, []int{900, -50}))
	gives[int](t, "Cut")(control.Cut(m, s, []int{-1000, 80}))
	gives(t, "Cut", 0)(control.Cut(m, s, []int{901, 0}))
	gives(t, "Cut", 1)(control.Cut(m, s, []int{900, -51}))
	gives(t, "Cut", 0, 1)(control.Cut(m, s, []int{-1001, 81}))
	gives(t, "Cut", 0, 1)(control.Cut(m, s, []int{api.MaxValue, -api.MaxValue}))
	s.Tripped[1], s.C.Coils[0] = true, 5001
	gives[int](t, "Cut")(control.Cut(m, s, []int{0, 0}))
	gives(t, "Cut", 0, 1)(control.Cut(m, s, []int{-1, 1}))
	for _, wish := range [][]int{nil, {0}, {0, 0, 0}, {api.MaxValue + 1, 0}, {0, -api.MaxValue - 1}, {math.MinInt, 0}, {0, math.MaxInt}} {
		none[int](t, "Cut", api.ErrInvalid)(control.Cut(m, s, wish))
	}
	none[int](t, "Cut", api.ErrInvalid)(control.Cut(m, api.State{}, []int{0, 0}))
}

// 7.3, P7.6: a room has just the changes that are applied as they are
func TestRoomIsApplied(t *testing.T) {
	r := rand.New(rand.NewSource(2))
	cases := map[string]int{}
	for range 4000 {
		m, s := some(r, 2)
		room, e := control.Room(m, s)
		if e != api.OK || len(room) != len(m.Coils) {
			t.Fatalf("Room = %v, %d", room, e)
		}
		for i, coil := range m.Coils {
			applied := func(n int) bool {
				change := make([]int, len(m.Coils))
				change[i] = n
				l, _ := circuit.Applied(m, s, change)
				return l[i] == n
			}
			current := max(s.C.Coils[i], -s.C.Coils[i])
			if s.Tripped[i] || current > coil.MaxCurrent {
				cases["no room"]++
				same(t, "Room", room[i], sp(0, 0))
				continue
			}
			cases["a room"]++
			if current+coil.MaxStep > coil.MaxCurrent {
				cases["a room that MaxCurrent ends"]++
			}
			inside := room[i].Lo + r.Intn(room[i].Hi-room[i].Lo+1)
			for n, want := range map[int]bool{room[i].Lo: true, room[i].Hi: true, inside: true, room[i].Lo - 1: false, room[i].Hi + 1: false} {
				if applied(n) != want {
					t.Errorf("the room of %v with %d is %v, but the change %d is applied: %t", coil, s.C.Coils[i], room[i], n, !want)
				}
			}
		}
		checkCut(t, r, m, s, room)
	}
	enough(t, cases, 500, "no room", "a room", "a room that MaxCurrent ends")
}

// checkCut holds what Cut tells of a wish around the rooms' ends against the rooms.
func checkCut(t *testing.T, r *rand.Rand, m api.Machine, s api.State, room []api.Span) {
	t.Helper()
	var wish, want []int
	for i, a := range room {
		n := []int{a.Lo - 1, a.Lo, a.Hi, a.Hi + 1}[r.Intn(4)]
		if wish = append(wish, n); n < a.Lo || n > a.Hi {
			want = append(want, i)
		}
	}
	gives(t, "Cut", want...)(control.Cut(m, s, wish))
}
