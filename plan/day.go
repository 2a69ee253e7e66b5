package plan

import (
	"slices"

	"shotdesk/api"
	"shotdesk/machine"
)

const (
	maxRequests = 64
	noSlot      = -1 // which is also what slices.Index returns
	nobody      = -1
)

// ValidDay reports whether requests are valid.
func ValidDay(l []api.Request) bool {
	if len(l) > maxRequests {
		return false
	}
	for i, q := range l {
		named := func(earlier api.Request) bool { return earlier.Shot == q.Shot }
		if !machine.Name(q.Shot) || slices.ContainsFunc(l[:i], named) || !ascends(q.Slots, api.MaxSlots) {
			return false
		}
	}
	return true
}

// ascends reports whether the numbers strictly ascend, from 0 to below the end.
func ascends(l []int, end int) bool {
	least := 0
	for _, n := range l {
		if !within(n, least, end-1) {
			return false
		}
		least = n + 1
	}
	return true
}

// Assign returns an assignment that serves as many requests as can be, and a cover that proves it.
func Assign(l []api.Request) (slots, requests, cover []int, e api.Errno) {
	if !ValidDay(l) {
		return nil, nil, nil, api.ErrInvalid
	}
	holders, short := match(l)
	for i := range l {
		slot := slices.Index(holders[:], i)
		slots = append(slots, slot)
		if slot != noSlot && !short[slot] {
			requests = append(requests, i)
		}
	}
	for slot, isShort := range short {
		if isShort {
			cover = append(cover, slot)
		}
	}
	return slots, requests, cover, api.OK
}

// match returns the request that has each slot, for as many requests as can be, and which slots are short: those that the others could only get by taking them away from each other.
func match(l []api.Request) (holders [api.MaxSlots]int, met [api.MaxSlots]bool) {
	for slot := range holders {
		holders[slot] = nobody
	}
	// serve finds a slot for a request: a free one, or one whose holder finds another one
	var serve func(i int) bool
	serve = func(i int) bool {
		for _, slot := range l[i].Slots {
			if met[slot] {
				continue
			}
			met[slot] = true
			if holders[slot] == nobody || serve(holders[slot]) {
				holders[slot] = i
				return true
			}
		}
		return false
	}
	for i := range l {
		clear(met[:])
		serve(i)
	}
	// the searches of those without a slot fail again, and meet all that is short
	clear(met[:])
	for i := range l {
		if !slices.Contains(holders[:], i) {
			serve(i)
		}
	}
	return holders, met
}

// Proved reports whether slots are an assignment that serves as many requests as can be, as a cover shows.
func Proved(l []api.Request, slots, requests, cover []int) bool {
	if !ValidDay(l) || !assigns(l, slots) || !ascends(requests, len(l)) || !ascends(cover, api.MaxSlots) {
		return false
	}
	served := 0
	for i, q := range l {
		if slots[i] != noSlot {
			served++
		}
		bare := func(slot int) bool { return !slices.Contains(cover, slot) }
		if !slices.Contains(requests, i) && slices.ContainsFunc(q.Slots, bare) {
			return false
		}
	}
	return len(requests)+len(cover) == served
}

// assigns reports whether slots are an assignment.
func assigns(l []api.Request, slots []int) bool {
	if len(slots) != len(l) {
		return false
	}
	for i, slot := range slots {
		if slot == noSlot {
			continue
		}
		if !slices.Contains(l[i].Slots, slot) || slices.Contains(slots[:i], slot) {
			return false
		}
	}
	return true
}
