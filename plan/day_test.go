package plan_test

import (
	"math/rand"
	"slices"
	"strconv"
	"testing"

	"shotdesk/api"
	"shotdesk/plan"
)

// day returns requests with some slots each.
func day(slots ...[]int) []api.Request {
	var l []api.Request
	for i, list := range slots {
		l = append(l, api.Request{Shot: "s" + strconv.Itoa(i), Slots: list})
	}
	return l
}

// upTo returns the numbers below n.
func upTo(n int) []int {
	var l []int
	for i := range n {
		l = append(l, i)
	}
	return l
}

// wrongDays are requests that are not valid.
func wrongDays() map[string][]api.Request {
	l := map[string][]api.Request{
		"65 requests": day(make([][]int, 65)...), "a million requests": make([]api.Request, 1000000), "a shot twice": {{Shot: "a"}, {Shot: "b"}, {Shot: "a", Slots: []int{3}}},
		"a slot twice": day([]int{3, 3}), "slots that descend": day([]int{1}, []int{4, 3}), "slots that descend at last": day([]int{1, 2, 5, 4}),
		"the slot -1": day([]int{-1}), "the slot 64": day(nil, []int{64}), "the slots -1 and 0": day([]int{-1, 0}), "the slots up to 64": day(upTo(65)), "the slots 63 and 64": day([]int{63, 64}),
		"a wrong request at last": append(day(make([][]int, 63)...), api.Request{}),
	}
	for _, name := range wrongNames {
		l["a wrong name "+name[:min(len(name), 20)]] = []api.Request{{Shot: "a", Slots: []int{1}}, {Shot: name, Slots: []int{2}}}
	}
	for _, n := range wild {
		l["a slot "+strconv.Itoa(n)], l["another slot "+strconv.Itoa(n)] = day([]int{n}), day([]int{0, n, 3})
	}
	return l
}

// 9.6
func TestValidDay(t *testing.T) {
	for what, l := range map[string][]api.Request{
		"nothing": nil, "no slots": day(nil), "empty slots": day([]int{}), "a slot": day([]int{0}), "the last slot": day([]int{63}), "all slots": day(upTo(64)), "the same slots": day([]int{1, 2}, []int{1, 2}),
		"64 requests": day(slices.Repeat([][]int{upTo(64)}, 64)...), "names of 16 bytes": {{Shot: "abcdefghijklmnop"}, {Shot: "abcdefghijklmno_"}}, "gaps": day([]int{3, 9, 63}),
	} {
		same(t, "ValidDay of "+what, plan.ValidDay(l), true)
		checkAssigned(t, l)
	}
	for what, l := range wrongDays() {
		same(t, "ValidDay of "+what, plan.ValidDay(l), false)
		slots, requests, cover, e := plan.Assign(l)
		if e != api.ErrInvalid || len(slots)+len(requests)+len(cover) > 0 {
			t.Errorf("Assign of %s = %v, %v, %v, %d", what, slots, requests, cover, e)
		}
		none := slices.Repeat([]int{-1}, min(len(l), 100))
		same(t, "Proved of "+what, plan.Proved(l, none, nil, nil), false)
		same(t, "Proved of "+what, plan.Proved(l, nil, nil, nil), false)
	}
}

// served counts the requests that have a slot.
func served(slots []int) int {
	count := 0
	for _, slot := range slots {
		if slot != -1 {
			count++
		}
	}
	return count
}

// proves is the chapter's words for Proved of valid requests.
func proves(l []api.Request, slots, requests, cover []int) bool {
	if len(slots) != len(l) {
		return false
	}
	taken := map[int]bool{}
	for i, slot := range slots {
		if slot == -1 {
			continue
		}
		if taken[slot] || !slices.Contains(l[i].Slots, slot) {
			return false
		}
		taken[slot] = true
	}
	fits := func(list []int, end int) bool {
		for i, n := range list {
			if n < 0 || n >= end || i > 0 && n <= list[i-1] {
				return false
			}
		}
		return true
	}
	if !fits(requests, len(l)) || !fits(cover, api.MaxSlots) {
		return false
	}
	for i, q := range l {
		for _, slot := range q.Slots {
			if !slices.Contains(requests, i) && !slices.Contains(cover, slot) {
				return false
			}
		}
	}
	return len(requests)+len(cover) == served(slots)
}

// checkAssigned holds Assign against the chapter's words, and returns how many requests it serves.
func checkAssigned(t *testing.T, l []api.Request) int {
	t.Helper()
	slots, requests, cover, e := plan.Assign(l)
	if e != api.OK || !proves(l, slots, requests, cover) || !plan.Proved(l, slots, requests, cover) {
		t.Errorf("Assign of %v = %v, %v, %v, %d", l, slots, requests, cover, e)
	}
	return served(slots)
}

// most returns how many requests can be served, when some slots are taken, by trying all.
func most(l []api.Request, taken map[int]bool) int {
	if len(l) == 0 {
		return 0
	}
	best := most(l[1:], taken)
	for _, slot := range l[0].Slots {
		if !taken[slot] {
			taken[slot] = true
			best = max(best, 1+most(l[1:], taken))
			delete(taken, slot)
		}
	}
	return best
}

// 9.6: the chapter's example, and others by hand
func TestAssign(t *testing.T) {
	slots, requests, cover, e := plan.Assign(day([]int{0}, []int{0, 1}, []int{1}))
	if e != api.OK || served(slots) != 2 || len(requests) > 0 || !slices.Equal(cover, []int{0, 1}) {
		t.Errorf("Assign of the example = %v, %v, %v, %d", slots, requests, cover, e)
	}
	slots, requests, cover, e = plan.Assign(nil)
	if e != api.OK || len(slots)+len(requests)+len(cover) > 0 {
		t.Errorf("Assign of nothing = %v, %v, %v, %d", slots, requests, cover, e)
	}
	slots, requests, cover, e = plan.Assign(day(nil, []int{5}, nil))
	if e != api.OK || !slices.Equal(slots, []int{-1, 5, -1}) || len(requests)+len(cover) != 1 {
		t.Errorf("Assign with requests without slots = %v, %v, %v, %d", slots, requests, cover, e)
	}
	// each slot has to be taken from another one that finds another one, down to the last
	chain := [][]int{}
	for i := range 63 {
		chain = append(chain, []int{i, i + 1})
	}
	same(t, "a chain", checkAssigned(t, day(append(chain, []int{0})...)), 64)
	same(t, "all for all", checkAssigned(t, day(slices.Repeat([][]int{upTo(64)}, 64)...)), 64)
	same(t, "all for one", checkAssigned(t, day(slices.Repeat([][]int{{7}}, 64)...)), 1)
	same(t, "one for all", checkAssigned(t, day(upTo(64))), 1)
	same(t, "all for three, one for all", checkAssigned(t, day(append(slices.Repeat([][]int{{7, 8, 63}}, 60), upTo(64), []int{7}, upTo(9))...)), 5)
	same(t, "a crown", checkAssigned(t, day([]int{0, 1, 2, 3, 4}, []int{0}, []int{1}, []int{0, 1}, []int{2})), 4)
}

// P9.5: of all days of three requests and three slots
func TestAllSmallDays(t *testing.T) {
	var lists [][]int
	for bits := range 8 {
		var l []int
		for slot := range 3 {
			if bits>>slot&1 == 1 {
				l = append(l, slot)
			}
		}
		lists = append(lists, l)
	}
	for _, a := range lists {
		for _, b := range lists {
			for _, c := range lists {
				l := day(a, b, c)
				same(t, "how many of three are served", checkAssigned(t, l), most(l, map[int]bool{}))
				checkProved(t, l)
			}
		}
	}
}

// checkProved holds Proved of all that has numbers from -1 to 3 against the chapter's words; the lists of a cover are subsets.
func checkProved(t *testing.T, l []api.Request) {
	t.Helper()
	numbers := []int{-1, 0, 1, 2}
	for i := range 64 {
		slots := []int{numbers[i%4], numbers[i/4%4], numbers[i/16]}
		for k := range 64 {
			var requests, cover []int
			for n := range 3 {
				if k>>n&1 == 1 {
					requests = append(requests, n)
				}
				if k>>(n+3)&1 == 1 {
					cover = append(cover, n)
				}
			}
			if want := proves(l, slots, requests, cover); plan.Proved(l, slots, requests, cover) != want {
				t.Fatalf("Proved of %v, %v, %v, %v = %t", l, slots, requests, cover, !want)
			}
		}
	}
}

// P9.5: of random days, up to the largest
func TestRandomDays(t *testing.T) {
	r := rand.New(rand.NewSource(8))
	cases := map[string]int{}
	for range 3000 {
		count, end := 1+r.Intn(7), 1+r.Intn(7)
		if r.Intn(4) == 0 {
			count, end = 1+r.Intn(64), 1+r.Intn(64)
		}
		var lists [][]int
		for range count {
			l := r.Perm(end)[:r.Intn(min(end, 4)+1)]
			slices.Sort(l)
			lists = append(lists, l)
		}
		l := day(lists...)
		got := checkAssigned(t, l)
		if count <= 7 && end <= 7 {
			same(t, "how many are served", got, most(l, map[int]bool{}))
		}
		_, requests, cover, _ := plan.Assign(l)
		if len(requests) > 0 && len(cover) > 0 {
			cases["a cover of both"]++
		}
		if got < count && got < end {
			cases["neither all requests nor all slots"]++
		}
	}
	enough(t, cases, 300, "a cover of both", "neither all requests nor all slots")
}

// 9.6
func TestProved(t *testing.T) {
	l := day([]int{0}, []int{0, 1}, []int{1}, nil)
	for _, c := range []struct {
		what                   string
		slots, requests, cover []int
		want                   bool
	}{
		{"what is right", []int{0, 1, -1, -1}, nil, []int{0, 1}, true}, {"empty lists", []int{0, 1, -1, -1}, []int{}, []int{0, 1}, true}, {"another assignment", []int{0, -1, 1, -1}, nil, []int{0, 1}, true}, {"a third one", []int{-1, 0, 1, -1}, nil, []int{0, 1}, true},
		{"too few slots", []int{0, 1, -1}, nil, []int{0, 1}, false}, {"too many slots", []int{0, 1, -1, -1, -1}, nil, []int{0, 1}, false}, {"no slots", nil, nil, []int{0, 1}, false},
		{"a slot twice", []int{0, 0, 1, -1}, nil, []int{0, 1}, false}, {"a slot that is not asked for", []int{1, 0, -1, -1}, nil, []int{0, 1}, false}, {"a slot for a request without", []int{0, -1, -1, 1}, nil, []int{0, 1}, false},
		{"the slot -2", []int{0, 1, -2, -1}, nil, []int{0, 1}, false}, {"the slot 64", []int{0, 1, 64, -1}, nil, []int{0, 1}, false},
		{"too few served", []int{0, -1, -1, -1}, nil, []int{0, 1}, false}, {"none served", []int{-1, -1, -1, -1}, nil, nil, false}, {"none served, with a cover", []int{-1, -1, -1, -1}, nil, []int{0, 1}, false},
		{"too small a cover", []int{0, -1, -1, -1}, nil, []int{0}, false}, {"no cover", []int{0, 1, -1, -1}, []int{0}, []int{0}, false}, {"a cover of two that is none", []int{0, 1, -1, -1}, []int{0, 2}, nil, false},
		{"too large a cover", []int{0, 1, -1, -1}, []int{0}, []int{0, 1}, false}, {"a slot of the cover too many", []int{0, 1, -1, -1}, nil, []int{0, 1, 2}, false}, {"a request of the cover too many", []int{0, 1, -1, -1}, []int{3}, []int{0, 1}, false},
		{"a cover that descends", []int{0, 1, -1, -1}, nil, []int{1, 0}, false}, {"a slot of the cover twice", []int{0, 1, -1, -1}, nil, []int{0, 0}, false},
	} {
		same(t, "Proved of "+c.what, plan.Proved(l, c.slots, c.requests, c.cover), c.want)
	}
	both := day([]int{0, 1}, []int{0}, []int{2}, []int{0}, []int{2, 3, 4})
	right := []int{1, 0, 2, -1, 3}
	for _, c := range []struct {
		what            string
		requests, cover []int
		want            bool
	}{
		{"a cover of both", []int{0, 4}, []int{0, 2}, true}, {"another cover", []int{0, 2, 4}, []int{0}, true}, {"requests that descend", []int{4, 0}, []int{0, 2}, false}, {"a request twice", []int{0, 0}, []int{0, 2}, false},
		{"a request that there is not", []int{0, 5}, []int{0, 2}, false}, {"a request -1", []int{-1, 0}, []int{0, 2}, false}, {"a slot that there is not", []int{0, 4}, []int{0, 64}, false}, {"a slot -1", []int{0, 4}, []int{-1, 2}, false},
		{"a slot that nobody asks for", []int{0, 4}, []int{0, 9}, false},
	} {
		same(t, "Proved of "+c.what, plan.Proved(both, right, c.requests, c.cover), c.want)
	}
	for _, n := range wild {
		same(t, "Proved of a wild slot", plan.Proved(l, []int{0, 1, n, -1}, nil, []int{0, 1}), false)
		same(t, "Proved of a wild request", plan.Proved(both, right, []int{0, n}, []int{0, 2}), false)
		same(t, "Proved of a wild cover", plan.Proved(both, right, []int{0, 4}, []int{n, 2}), false)
	}
	same(t, "Proved of nothing", plan.Proved(nil, nil, nil, nil), true)
	same(t, "Proved of empty lists", plan.Proved([]api.Request{}, []int{}, []int{}, []int{}), true)
	same(t, "Proved of a slot of nothing", plan.Proved(nil, nil, nil, []int{0}), false)
}
