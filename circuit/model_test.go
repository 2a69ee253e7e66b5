package circuit_test

import (
	"math/big"

	"shotdesk/api"
	"shotdesk/machine"
)

// The model is the chapter's tick, in its words and in big numbers, one coil and one shell at a time.

func num(n int) *big.Int { return big.NewInt(int64(n)) }

func between(n, lo, hi *big.Int) *big.Int {
	if n.Cmp(lo) < 0 {
		return lo
	}
	if n.Cmp(hi) > 0 {
		return hi
	}
	return n
}

func about(n *big.Int, most int) *big.Int { return between(n, num(-most), num(most)) }

func modelApplied(c api.Coil, current int, tripped bool, change int) int {
	if tripped {
		switch {
		case current > c.MaxStep:
			return -c.MaxStep
		case current < -c.MaxStep:
			return c.MaxStep
		}
		return -current
	}
	sum := new(big.Int).Add(num(current), about(num(change), c.MaxStep))
	difference := new(big.Int).Sub(about(sum, c.MaxCurrent), num(current))
	return int(about(difference, c.MaxStep).Int64())
}

func modelInduced(m api.Machine, shell api.Shell, old []int, applied, plasma []int) *big.Int {
	n := new(big.Int)
	add := func(r, z, turns, change int) {
		dr, dz := r-shell.R, z-shell.Z
		part := new(big.Int).Mul(num(turns*(1000000/(4+dr*dr+dz*dz))), num(change))
		n.Add(n, part)
	}
	for i, c := range m.Coils {
		add(c.R, c.Z, c.Turns, applied[i])
	}
	for i := range plasma {
		add(m.Grid.R+i%m.Grid.NR*m.Grid.Step, m.Grid.Z+i/m.Grid.NR*m.Grid.Step, 1, plasma[i]-old[i])
	}
	return n.Quo(n, num(shell.Self))
}

func modelLost(current, loss int) int {
	sign := 1
	if current < 0 {
		sign, current = -1, -current
	}
	return sign * min((current*loss+999)/1000, current)
}

func modelHeat(c api.Coil, heat, current int) int {
	n := new(big.Int).Mul(num(current), num(current))
	n.Quo(n, num(1000))
	n.Add(n, num(heat-c.Cool))
	return int(between(n, num(0), num(api.MaxValue)).Int64())
}

func modelStep(m api.Machine, s api.State, d api.Drive) api.State {
	next := api.State{Tick: s.Tick + 1, C: machine.Quiet(m)}
	copy(next.C.Plasma, d.Plasma)
	var applied []int
	for i, c := range m.Coils {
		applied = append(applied, modelApplied(c, s.C.Coils[i], s.Tripped[i], d.Change[i]))
		next.C.Coils[i] = s.C.Coils[i] + applied[i]
		heat := modelHeat(c, s.Heat[i], next.C.Coils[i])
		tripped := s.Tripped[i] || heat > c.MaxHeat
		if tripped && next.C.Coils[i] == 0 && heat <= c.MaxHeat/2 {
			tripped = false
		}
		next.Heat, next.Tripped = append(next.Heat, heat), append(next.Tripped, tripped)
	}
	for i, shell := range m.Shells {
		old := s.C.Shells[i]
		n := num(old - modelLost(old, shell.Loss))
		n.Sub(n, modelInduced(m, shell, s.C.Plasma, applied, d.Plasma))
		next.C.Shells[i] = int(about(n, api.MaxAmp).Int64())
	}
	return next
}
