package shape

import (
	"slices"

	"shotdesk/api"
	"shotdesk/equil"
)

// Clearance returns for each limiter point how far its flux is below the greatest one at the others.
func Clearance(m api.Machine, c api.Currents, x []api.Span) ([]api.Span, api.Errno) {
	fluxes, e := equil.Fluxes(m, c, x, m.Limits)
	if e != api.OK {
		return nil, e
	}
	list := make([]api.Span, len(fluxes))
	for i, flux := range fluxes {
		list[i] = below(flux, slices.Delete(slices.Clone(fluxes), i, i+1))
	}
	return list, api.OK
}

// below returns how far a flux is below the greatest one of others.
func below(flux api.Span, others []api.Span) api.Span {
	if len(others) == 0 {
		return api.Span{}
	}
	return api.Span{
		Lo: max(0, fold(others, lower, greatest)-flux.Hi),
		Hi: max(0, fold(others, upper, greatest)-flux.Lo),
	}
}

// Axis returns the cells whose flux may be the greatest one.
func Axis(m api.Machine, c api.Currents, x []api.Span) ([]int, api.Errno) {
	fluxes, e := equil.Fluxes(m, c, x, places(m))
	if e != api.OK {
		return nil, e
	}
	var list []int
	most := fold(fluxes, lower, greatest)
	for cell, flux := range fluxes {
		if flux.Hi >= most {
			list = append(list, cell)
		}
	}
	return list, api.OK
}
