package automata_test

import (
	"slices"

	"domicile/api"
)

// refValid says whether an automaton is well-formed.
func refValid(a api.Automaton) bool {
	ok := a.Clocks >= 0 && a.Clocks <= 12 && len(a.Locs) > 0 && len(a.Locs) <= 400 && a.Start >= 0 && a.Start < len(a.Locs) && len(a.Edges) <= 8000
	for _, l := range a.Locs {
		ok = ok && len(l.Upper) == a.Clocks
		for _, upper := range l.Upper {
			ok = ok && (upper == 1<<40 || upper >= 0 && upper <= 1000000000)
		}
	}
	for _, e := range a.Edges {
		ok = ok && e.From >= 0 && e.From < len(a.Locs) && e.To >= 0 && e.To < len(a.Locs) && len(e.Guards) <= 24
		for _, g := range e.Guards {
			ok = ok && g.Clock >= 0 && g.Clock < a.Clocks && g.Least >= 0 && g.Least <= 1000000000
		}
		last := -1
		for _, clock := range e.Resets {
			ok = ok && clock > last && clock < a.Clocks
			last = clock
		}
	}
	return ok
}

// refInvariant says whether clocks satisfy the invariant of a location.
func refInvariant(a api.Automaton, loc int, clocks []int) bool {
	for i, value := range clocks {
		if upper := a.Locs[loc].Upper[i]; upper < 1<<40 && value > upper {
			return false
		}
	}
	return true
}

// refConfig says whether a configuration is well-formed.
func refConfig(a api.Automaton, c api.Config) bool {
	if c.Loc < 0 || c.Loc >= len(a.Locs) || len(c.Clocks) != a.Clocks {
		return false
	}
	for _, value := range c.Clocks {
		if value < 0 || value > 1<<40-1 {
			return false
		}
	}
	return refInvariant(a, c.Loc, c.Clocks)
}

func refWait(a api.Automaton, c api.Config, n int) (api.Config, api.Errno) {
	if !refValid(a) || !refConfig(a, c) || n < 0 || n > 1000000000 {
		return api.Config{}, api.ErrArg
	}
	next := api.Config{Loc: c.Loc}
	for _, value := range c.Clocks {
		next.Clocks = append(next.Clocks, value+n)
	}
	if !refInvariant(a, c.Loc, next.Clocks) {
		return api.Config{}, api.ErrState
	}
	if len(next.Clocks) > 0 && slices.Max(next.Clocks) > 1<<40-1 {
		return api.Config{}, api.ErrLimit
	}
	return next, api.OK
}

func refTake(a api.Automaton, c api.Config, edge int) (api.Config, api.Errno) {
	if !refValid(a) || !refConfig(a, c) || edge < 0 || edge >= len(a.Edges) {
		return api.Config{}, api.ErrArg
	}
	e := a.Edges[edge]
	next := api.Config{Loc: e.To}
	for i, value := range c.Clocks {
		if slices.Contains(e.Resets, i) {
			value = 0
		}
		next.Clocks = append(next.Clocks, value)
	}
	for _, g := range e.Guards {
		if c.Clocks[g.Clock] < g.Least {
			return api.Config{}, api.ErrState
		}
	}
	if e.From != c.Loc || !refInvariant(a, e.To, next.Clocks) {
		return api.Config{}, api.ErrState
	}
	return next, api.OK
}

func refRun(a api.Automaton, l []api.Move) ([]api.Config, api.Errno) {
	if !refValid(a) {
		return nil, api.ErrArg
	}
	if len(l) > 400 {
		return nil, api.ErrLimit
	}
	c := api.Config{Loc: a.Start, Clocks: make([]int, a.Clocks)}
	var list []api.Config
	for _, m := range l {
		next, err := refWait(a, c, m.Wait)
		if err == api.OK && m.Edge != -1 {
			next, err = refTake(a, next, m.Edge)
		}
		if err != api.OK {
			return nil, err
		}
		c = next
		list = append(list, c)
	}
	return list, api.OK
}

func refGreatest(a api.Automaton) []int {
	if !refValid(a) {
		return nil
	}
	var list []int
	for clock := range a.Clocks {
		numbers := []int{0}
		for _, l := range a.Locs {
			if l.Upper[clock] < 1<<40 {
				numbers = append(numbers, l.Upper[clock])
			}
		}
		for _, e := range a.Edges {
			for _, g := range e.Guards {
				if g.Clock == clock {
					numbers = append(numbers, g.Least)
				}
			}
		}
		list = append(list, slices.Max(numbers))
	}
	return list
}
