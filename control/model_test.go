package control_test

import (
	"math/big"

	"shotdesk/api"
	"shotdesk/circuit"
)

// The model is the chapter in its words and in big numbers; of the lower layers it asks circuit.Step alone.

func num(n int) *big.Int { return big.NewInt(int64(n)) }

func about(n *big.Int, most int) int {
	if n.CmpAbs(num(most)) > 0 {
		return most * n.Sign()
	}
	return int(n.Int64())
}

// nearest returns the number that a span holds that is nearest to 0.
func nearest(lo, hi int) int {
	switch {
	case lo > 0:
		return lo
	case hi < 0:
		return hi
	}
	return 0
}

func modelProved(g api.Goal, s api.Shape) (r, z int) {
	return nearest(g.R-s.Radius.Hi, g.R-s.Radius.Lo), nearest(g.Z-s.Height.Hi, g.Z-s.Height.Lo)
}

func modelRemember(most int, y api.Memory, g api.Goal, s api.Shape) api.Memory {
	r, z := modelProved(g, s)
	return api.Memory{SumR: about(num(y.SumR+r), most), SumZ: about(num(y.SumZ+z), most)}
}

func modelWish(m api.Machine, x api.Setup, y api.Memory, g api.Goal, s api.Shape) []int {
	r, z := modelProved(g, s)
	var list []int
	for i, coil := range m.Coils {
		sum := new(big.Int)
		for _, term := range [][2]int{{x.Gains[i].R, r}, {x.Gains[i].Z, z}, {x.Gains[i].SumR, y.SumR}, {x.Gains[i].SumZ, y.SumZ}} {
			sum.Add(sum, new(big.Int).Mul(num(term[0]), num(term[1])))
		}
		// Quo rounds towards 0
		list = append(list, about(sum.Quo(sum, num(1000)), coil.MaxStep))
	}
	return list
}

func influence(a, b api.Point) int {
	return 1000000 / (4 + (a.R-b.R)*(a.R-b.R) + (a.Z-b.Z)*(a.Z-b.Z))
}

// rise returns the span of the flux at a place less that at another one.
func rise(m api.Machine, c api.Currents, x []api.Span, at, other api.Point) (lo, hi *big.Int) {
	lo, hi = new(big.Int), new(big.Int)
	add := func(sum *big.Int, place api.Point, current int) {
		sum.Add(sum, new(big.Int).Mul(num(influence(place, at)-influence(place, other)), num(current)))
	}
	known := new(big.Int)
	for i, coil := range m.Coils {
		add(known, api.Point{R: coil.R, Z: coil.Z}, coil.Turns*c.Coils[i])
	}
	for i, shell := range m.Shells {
		add(known, api.Point{R: shell.R, Z: shell.Z}, c.Shells[i])
	}
	for i, a := range x {
		cell := api.Point{R: m.Grid.R + i%m.Grid.NR*m.Grid.Step, Z: m.Grid.Z + i/m.Grid.NR*m.Grid.Step}
		if influence(cell, at) < influence(cell, other) {
			a.Lo, a.Hi = a.Hi, a.Lo
		}
		add(lo, cell, a.Lo)
		add(hi, cell, a.Hi)
	}
	return lo.Add(lo, known), hi.Add(hi, known)
}

// outward returns the span from n * lo / 10^9 to n * hi / 10^9, or the other way round.
func outward(n int, lo, hi *big.Int) api.Span {
	if n < 0 {
		lo, hi = hi, lo
	}
	down := func(n int, field *big.Int) int {
		product := new(big.Int).Mul(num(n), field)
		// Div rounds down where the divisor is above 0
		return int(product.Div(product, num(1000000000)).Int64())
	}
	return sp(down(n, lo), -down(-n, hi))
}

func modelForces(m api.Machine, c api.Currents, x []api.Span) [][2]api.Span {
	var list [][2]api.Span
	for i, coil := range m.Coils {
		place := func(r, z int) api.Point { return api.Point{R: coil.R + r, Z: coil.Z + z} }
		lower, upper := rise(m, c, x, place(1, 0), place(-1, 0))
		least, most := rise(m, c, x, place(0, -1), place(0, 1))
		turns := coil.Turns * c.Coils[i]
		list = append(list, [2]api.Span{outward(turns, lower, upper), outward(-turns, least, most)})
	}
	return list
}

func modelSafe(m api.Machine, s api.State, change []int, x []api.Span, b api.Safety) api.Truth {
	after, _ := circuit.Step(m, s, api.Drive{Change: change, Plasma: s.C.Plasma})
	maybe, no := false, false
	for _, tripped := range after.Tripped {
		no = no || tripped
	}
	for _, current := range after.C.Shells {
		no = no || current > b.Shell || current < -b.Shell
	}
	for _, force := range modelForces(m, after.C, x) {
		for _, part := range force {
			no = no || part.Lo > b.Force || part.Hi < -b.Force
			maybe = maybe || part.Hi > b.Force || part.Lo < -b.Force
		}
	}
	switch {
	case no:
		return api.No
	case maybe:
		return api.Maybe
	}
	return api.Yes
}

func modelLet(m api.Machine, s api.State, wish []int, x []api.Span, b api.Safety) api.Order {
	for n := 8; n >= 0; n-- {
		var part []int
		for _, whole := range wish {
			part = append(part, whole*n/8)
		}
		if modelSafe(m, s, part, x, b) == api.Yes {
			return api.Order{Change: part, Share: n}
		}
	}
	var fall []int
	for i, coil := range m.Coils {
		fall = append(fall, about(num(-s.C.Coils[i]), coil.MaxStep))
	}
	return api.Order{Change: fall, Share: -1}
}
