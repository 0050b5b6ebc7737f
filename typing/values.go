package typing

import (
	"slices"

	"domicile/api"
	"domicile/units"
)

// values are the values of a variable: names, or a grid of quantities.
type values struct {
	names []string
	grid  grid
}

// grid has the quantities low, low + step, .. as values of a dimension. Its size is 0 if a variable has names instead.
type grid struct{ dim, low, step, size int }

// valuesOf returns the values of an attribute.
func valuesOf(a api.Attr) (values, api.Errno) {
	if len(a.Values) == 0 {
		g, err := gridOf(a)
		return values{grid: g}, err
	}
	if !within(len(a.Values), 2, api.MaxValues) {
		return values{}, api.ErrRange
	}
	return values{names: a.Values}, api.OK
}

// gridOf returns the grid of an attribute.
func gridOf(a api.Attr) (grid, api.Errno) {
	var dims, numbers [3]int
	for i, q := range [...]api.Quantity{a.Low, a.High, a.Step} {
		dim, number, err := units.Base(q)
		if err != api.OK {
			return grid{}, err
		}
		dims[i], numbers[i] = dim, number
	}
	if dims[1] != dims[0] || dims[2] != dims[0] {
		return grid{}, api.ErrType
	}
	low, high, step := numbers[0], numbers[1], numbers[2]
	// With a greatest value that is less than the least one, the quotient could be rounded towards 0.
	if step <= 0 || high < low {
		return grid{}, api.ErrRange
	}
	g := grid{dim: dims[0], low: low, step: step, size: (high-low)/step + 1}
	if !within(g.size, 2, api.MaxValues) {
		return grid{}, api.ErrRange
	}
	return g, api.OK
}

// isGrid reports whether the values are quantities.
func (v values) isGrid() bool { return v.grid.size > 0 }

// size returns the number of values; a variable without names has one value all the same.
func (v values) size() int {
	if v.isGrid() {
		return v.grid.size
	}
	return max(1, len(v.names))
}

// index returns the index of a literal.
func (v values) index(l api.Literal) (int, api.Errno) {
	if v.isGrid() {
		return v.grid.index(l)
	}
	if l.Name == "" {
		return 0, api.ErrType
	}
	i := slices.Index(v.names, l.Name)
	if i < 0 {
		return 0, api.ErrName
	}
	return i, api.OK
}

// index returns the index of a literal that is on the grid.
func (g grid) index(l api.Literal) (int, api.Errno) {
	number, err := g.number(l)
	if err != api.OK {
		return 0, err
	}
	i := (number - g.low) / g.step
	if number < g.low || i >= g.size || g.low+i*g.step != number {
		return 0, api.ErrRange
	}
	return i, api.OK
}

// number returns the value of a literal in the dimension of the grid; it need not be on the grid.
func (g grid) number(l api.Literal) (int, api.Errno) {
	if l.Name != "" {
		return 0, api.ErrType
	}
	dim, number, err := units.Base(l.Quantity)
	if err != api.OK {
		return 0, err
	}
	if dim != g.dim {
		return 0, api.ErrType
	}
	return number, api.OK
}

// below returns how many values of the grid are less than a number.
func (g grid) below(number int) int {
	if number <= g.low {
		return 0
	}
	return min(g.size, (number-g.low-1)/g.step+1)
}
