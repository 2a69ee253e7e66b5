package equil_test

import (
	"math/big"
	"slices"

	"shotdesk/api"
)

// A model follows the chapter's words, in numbers without bounds where products are long.
type model struct {
	m     api.Machine
	c     api.Currents
	total int
}

func influence(a, b api.Point) int {
	return 1000000 / (4 + (a.R-b.R)*(a.R-b.R) + (a.Z-b.Z)*(a.Z-b.Z))
}

func (x model) cells() []api.Point {
	var list []api.Point
	g := x.m.Grid
	for z := range g.NZ {
		for r := range g.NR {
			list = append(list, api.Point{R: g.R + r*g.Step, Z: g.Z + z*g.Step})
		}
	}
	return list
}

func (x model) known(p api.Point) int {
	sum := 0
	for i, coil := range x.m.Coils {
		sum += influence(p, api.Point{R: coil.R, Z: coil.Z}) * coil.Turns * x.c.Coils[i]
	}
	for i, shell := range x.m.Shells {
		sum += influence(p, api.Point{R: shell.R, Z: shell.Z}) * x.c.Shells[i]
	}
	return sum
}

// flux returns the flux at a place of whole numbers.
func (x model) flux(p api.Point, j []int) int {
	sum := x.known(p)
	for i, cell := range x.cells() {
		sum += influence(p, cell) * j[i]
	}
	return sum
}

// ends returns the numbers of the lower and those of the upper ends of a box.
func ends(b []api.Span) (low, high []int) {
	for _, a := range b {
		low, high = append(low, a.Lo), append(high, a.Hi)
	}
	return low, high
}

func (x model) fluxes(b []api.Span, l []api.Point) []api.Span {
	low, high := ends(b)
	var list []api.Span
	for _, p := range l {
		list = append(list, sp(x.flux(p, low), x.flux(p, high)))
	}
	return list
}

func (x model) boundary(b []api.Span) api.Span {
	low, high := ends(x.fluxes(b, x.m.Limits))
	return sp(slices.Max(low), slices.Max(high))
}

func (x model) excesses(b []api.Span) []api.Span {
	list, edge := x.fluxes(b, x.cells()), x.boundary(b)
	for i, f := range list {
		list[i] = sp(max(0, f.Lo-edge.Hi), max(0, f.Hi-edge.Lo))
	}
	return list
}

// quotient returns the total times part / (part + others), rounded down, or up.
func (x model) quotient(part, others int, up bool) int {
	if part == 0 {
		return 0
	}
	product := new(big.Int).Mul(big.NewInt(int64(x.total)), big.NewInt(int64(part)))
	whole, rest := new(big.Int).DivMod(product, big.NewInt(int64(part+others)), new(big.Int))
	if up && rest.Sign() > 0 {
		return int(whole.Int64()) + 1
	}
	return int(whole.Int64())
}

// image returns the image of a box, and whether it has one.
func (x model) image(b []api.Span) ([]api.Span, bool) {
	excesses := x.excesses(b)
	low, high := 0, 0
	for _, a := range excesses {
		low, high = low+a.Lo, high+a.Hi
	}
	if low == 0 {
		return nil, false
	}
	var list []api.Span
	for _, a := range excesses {
		list = append(list, sp(x.quotient(a.Lo, high-a.Hi, false), x.quotient(a.Hi, low-a.Lo, true)))
	}
	return list, true
}

// exact returns the image of whole numbers, and whether they have one.
func (x model) exact(j []int) ([]*big.Rat, bool) {
	sum := new(big.Rat)
	var list []*big.Rat
	for _, a := range x.excesses(dots(j...)) {
		list = append(list, big.NewRat(int64(a.Lo), 1))
		sum.Add(sum, list[len(list)-1])
	}
	if sum.Sign() == 0 {
		return nil, false
	}
	for _, a := range list {
		a.Quo(a.Mul(a, big.NewRat(int64(x.total), 1)), sum)
	}
	return list, true
}

// rounded returns a number that is not below 0 rounded down, and whether it was not whole.
func rounded(a *big.Rat) (int, bool) {
	return int(new(big.Int).Div(a.Num(), a.Denom()).Int64()), !a.IsInt()
}

// round returns the numbers after a round, and whether there is one.
func (x model) round(j []int) ([]int, bool) {
	image, ok := x.exact(j)
	if !ok {
		return nil, false
	}
	var next []int
	missing := x.total
	for _, a := range image {
		down, _ := rounded(a)
		next = append(next, down)
		missing -= down
	}
	for i, a := range image {
		if missing > 0 && a.Sign() > 0 {
			next[i]++
			missing--
		}
	}
	return next, true
}

// iterate returns the numbers after up to n rounds, and how many changed something.
func (x model) iterate(j []int, n int) ([]int, int, bool) {
	for made := range n {
		next, ok := x.round(j)
		if !ok {
			return nil, 0, false
		}
		if slices.Equal(next, j) {
			return j, made, true
		}
		j = next
	}
	return j, n, true
}

func (x model) even() []int {
	cells := len(x.cells())
	j := make([]int, cells)
	for i := range x.total {
		j[i%cells]++
	}
	return j
}

func (x model) proved(b []api.Span) bool {
	image, ok := x.image(b)
	return ok && inside(image, b)
}

// inside reports whether a lies in b, cell by cell.
func inside(a, b []api.Span) bool {
	for i := range a {
		if a[i].Lo < b[i].Lo || a[i].Hi > b[i].Hi {
			return false
		}
	}
	return len(a) == len(b)
}

func (x model) find() ([]api.Span, bool) {
	j, _, ok := x.iterate(x.even(), 60)
	if !ok {
		return nil, false
	}
	for w := 1; w <= 16384; w *= 2 {
		var b []api.Span
		for _, n := range j {
			b = append(b, sp(max(0, n-w), min(x.total, n+w)))
		}
		if b, ok := x.look(b, 20); ok {
			return x.narrow(b, 20)
		}
	}
	return nil, false
}

// look returns the box that is proved at one of n looks.
func (x model) look(b []api.Span, n int) ([]api.Span, bool) {
	image, ok := x.image(b)
	switch {
	case n == 0 || !ok:
		return nil, false
	case x.proved(b):
		return b, true
	}
	for i, a := range image {
		image[i] = sp(min(a.Lo, b[i].Lo), max(a.Hi, b[i].Hi))
	}
	return x.look(image, n-1)
}

// narrow makes each span n times the meet of it and of its image, and reports whether there is one.
func (x model) narrow(b []api.Span, n int) ([]api.Span, bool) {
	if n == 0 {
		return b, true
	}
	image, ok := x.image(b)
	if !ok {
		return nil, false
	}
	for i, a := range image {
		image[i] = sp(max(a.Lo, b[i].Lo), min(a.Hi, b[i].Hi))
		if image[i].Lo > image[i].Hi {
			return nil, false
		}
	}
	return x.narrow(image, n-1)
}
