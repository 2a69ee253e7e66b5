package desk

import (
	"shotdesk/api"
	"shotdesk/circuit"
	"shotdesk/machine"
)

// heatUnit is how many parts of MaxHeat a signal tells.
const heatUnit = 1000

// Signals returns the signals of a state and a tick's record.
func Signals(m api.Machine, s api.State, k api.Tick, t int) []api.Signal {
	if !circuit.ValidState(m, s) {
		return nil
	}
	list := []api.Signal{
		point("tick", t),
		point("current", machine.Total(s.C)),
		point("blame", k.Blame),
		point("shell", greatestShell(s)),
		point("heat", greatestHeat(m, s)),
		point("broken", count(k.Kept, api.No)),
		point("doubtful", count(k.Kept, api.Maybe)),
	}
	if !k.Known {
		return list
	}
	return append(list,
		api.Signal{Name: "radius", Value: k.Shape.Radius},
		api.Signal{Name: "height", Value: k.Shape.Height},
		api.Signal{Name: "area", Value: k.Shape.Area},
		api.Signal{Name: "top", Value: k.Shape.Top},
		api.Signal{Name: "bottom", Value: k.Shape.Bottom},
		api.Signal{Name: "inner", Value: k.Shape.Inner},
		api.Signal{Name: "outer", Value: k.Shape.Outer},
		api.Signal{Name: "lift", Value: k.Shape.Lift},
	)
}

func point(name string, n int) api.Signal {
	return api.Signal{Name: name, Value: api.Span{Lo: n, Hi: n}}
}

// greatestShell returns the greatest absolute current of a shell.
func greatestShell(s api.State) int {
	most := 0
	for _, current := range s.C.Shells {
		most = max(most, current, -current)
	}
	return most
}

// greatestHeat returns the greatest heat of a coil in parts of its MaxHeat, rounded up.
func greatestHeat(m api.Machine, s api.State) int {
	most := 0
	for i, coil := range m.Coils {
		most = max(most, (s.Heat[i]*heatUnit+coil.MaxHeat-1)/coil.MaxHeat)
	}
	return min(most, api.MaxValue)
}

func count(list []api.Truth, x api.Truth) int {
	n := 0
	for _, y := range list {
		if y == x {
			n++
		}
	}
	return n
}
