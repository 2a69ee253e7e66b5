package control

import (
	"slices"

	"shotdesk/api"
	"shotdesk/circuit"
	"shotdesk/span"
)

// eighths is how many there are of a wish.
const eighths = 8

func validNumbers(list []int) bool {
	return !slices.ContainsFunc(list, func(n int) bool { return !within(n, -api.MaxValue, api.MaxValue) })
}

// Part returns the n eighths of a wish.
func Part(wish []int, n int) ([]int, api.Errno) {
	if !validNumbers(wish) {
		return nil, api.ErrInvalid
	}
	if !within(n, 0, eighths) {
		return nil, api.ErrRange
	}
	list := make([]int, len(wish))
	for i, whole := range wish {
		list[i] = whole * n / eighths
	}
	return list, api.OK
}

// Fall returns the changes that bring each coil's current towards 0.
func Fall(m api.Machine, s api.State) ([]int, api.Errno) {
	if !circuit.ValidState(m, s) {
		return nil, api.ErrInvalid
	}
	list := make([]int, len(m.Coils))
	for i, coil := range m.Coils {
		list[i] = cut(-s.C.Coils[i], coil.MaxStep)
	}
	return list, api.OK
}

// Room returns for each coil the changes that would be applied just as they are asked for.
func Room(m api.Machine, s api.State) ([]api.Span, api.Errno) {
	if !circuit.ValidState(m, s) {
		return nil, api.ErrInvalid
	}
	list := make([]api.Span, len(m.Coils))
	for i, coil := range m.Coils {
		current := s.C.Coils[i]
		if !s.Tripped[i] && within(current, -coil.MaxCurrent, coil.MaxCurrent) {
			list[i] = api.Span{Lo: max(-coil.MaxStep, -coil.MaxCurrent-current), Hi: min(coil.MaxStep, coil.MaxCurrent-current)}
		}
	}
	return list, api.OK
}

// Cut returns the coils whose wish lies outside of their room.
func Cut(m api.Machine, s api.State, wish []int) ([]int, api.Errno) {
	room, e := Room(m, s)
	if e != api.OK || len(wish) != len(room) || !validNumbers(wish) {
		return nil, api.ErrInvalid
	}
	var list []int
	for i, n := range wish {
		if !span.Contains(room[i], n) {
			list = append(list, i)
		}
	}
	return list, api.OK
}
