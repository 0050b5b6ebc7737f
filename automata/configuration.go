package automata

import (
	"slices"

	"domicile/api"
)

// compute returns what a computation about a well-formed automaton returns, or the error with which it ended.
func compute[T any](a api.Automaton, result func() T) (value T, err api.Errno) {
	defer func() {
		if failure, ok := recover().(api.Errno); ok {
			err = failure
		}
	}()
	fail(!Valid(a), api.ErrArg)
	return result(), api.OK
}

// fail ends a computation with an error, if something is wrong: the panic is recovered by compute.
func fail(wrong bool, err api.Errno) {
	if wrong {
		panic(err)
	}
}

// configuration is a configuration with its automaton, which is well-formed.
type configuration struct {
	automaton api.Automaton
	api.Config
}

// checked returns the configuration, if it is well-formed.
func (c configuration) checked() configuration {
	fail(!isIndex(c.Loc, len(c.automaton.Locs)) || len(c.Clocks) != c.automaton.Clocks, api.ErrArg)
	fail(!every(c.Clocks, func(_, value int) bool { return value >= 0 && value < api.Infinite }), api.ErrArg)
	fail(!c.permitted(), api.ErrArg)
	return c
}

// permitted reports whether the invariant of the location is satisfied.
func (c configuration) permitted() bool {
	upper := c.automaton.Locs[c.Loc].Upper
	return every(c.Clocks, func(clock, value int) bool {
		return upper[clock] == api.Infinite || value <= upper[clock]
	})
}

// wait returns the configuration after some seconds.
func (c configuration) wait(n int) configuration {
	fail(!isTime(n), api.ErrArg)
	c.Clocks = slices.Clone(c.Clocks)
	for i := range c.Clocks {
		c.Clocks[i] += n
	}
	fail(!c.permitted(), api.ErrState)
	fail(!every(c.Clocks, func(_, value int) bool { return value < api.Infinite }), api.ErrLimit)
	return c
}

// take returns the configuration after an edge.
func (c configuration) take(edge int) configuration {
	fail(!isIndex(edge, len(c.automaton.Edges)), api.ErrArg)
	next, ok := c.after(c.automaton.Edges[edge])
	fail(!ok, api.ErrState)
	return next
}

// after returns the configuration after an edge, and whether the edge is enabled.
func (c configuration) after(e api.Edge) (configuration, bool) {
	ready := e.From == c.Loc && every(e.Guards, func(_ int, g api.Guard) bool { return c.Clocks[g.Clock] >= g.Least })
	if !ready {
		return c, false
	}
	c.Loc, c.Clocks = e.To, slices.Clone(c.Clocks)
	for _, clock := range e.Resets {
		c.Clocks[clock] = 0
	}
	return c, c.permitted()
}

// enabledEdges returns the edges that can be taken.
func (c configuration) enabledEdges() []int {
	var list []int
	for i, e := range c.automaton.Edges {
		if _, ok := c.after(e); ok {
			list = append(list, i)
		}
	}
	return list
}
