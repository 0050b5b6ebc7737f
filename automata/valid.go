package automata

import "domicile/api"

// maxGuards is the greatest number of guards of an edge.
const maxGuards = 24

// every reports whether a condition holds for all elements of a list with their indices.
func every[T any](list []T, holds func(i int, element T) bool) bool {
	for i := range len(list) {
		if !holds(i, list[i]) {
			return false
		}
	}
	return true
}

// isIndex reports whether a number is an index of a list of some length.
func isIndex(i, length int) bool { return i >= 0 && i < length }

// isTime reports whether a number is a time.
func isTime(n int) bool { return n >= 0 && n <= api.MaxTime }

// validLoc reports whether a location has a number for each clock.
func validLoc(a api.Automaton, l api.Loc) bool {
	return len(l.Upper) == a.Clocks && every(l.Upper, func(_, upper int) bool {
		return upper == api.Infinite || isTime(upper)
	})
}

// validEdge reports whether an edge is one between locations, with guards and resets of clocks.
func validEdge(a api.Automaton, e api.Edge) bool {
	if !isIndex(e.From, len(a.Locs)) || !isIndex(e.To, len(a.Locs)) || len(e.Guards) > maxGuards {
		return false
	}
	return every(e.Guards, func(_ int, g api.Guard) bool {
		return isIndex(g.Clock, a.Clocks) && isTime(g.Least)
	}) && every(e.Resets, func(i, clock int) bool {
		return isIndex(clock, a.Clocks) && (i == 0 || e.Resets[i-1] < clock)
	})
}
