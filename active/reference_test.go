package active_test

import (
	"slices"

	"domicile/api"
	"domicile/automata"
	"domicile/dbm"
)

// pair is a location with a clock.
type pair struct{ loc, clock int }

// refActive returns the active pairs: those from which some sequence of edges without a reset of the clock leads to a location that compares it.
func refActive(a api.Automaton) map[pair]bool {
	set := map[pair]bool{}
	var reach func(p pair)
	reach = func(p pair) {
		if set[p] {
			return
		}
		set[p] = true
		for _, e := range a.Edges {
			if e.To == p.loc && !slices.Contains(e.Resets, p.clock) {
				reach(pair{e.From, p.clock})
			}
		}
	}
	for i, l := range a.Locs {
		for clock, upper := range l.Upper {
			if upper != api.Infinite {
				reach(pair{i, clock})
			}
		}
	}
	for _, e := range a.Edges {
		for _, g := range e.Guards {
			reach(pair{e.From, g.Clock})
		}
	}
	return set
}

// refLists returns a set of pairs as lists.
func refLists(a api.Automaton, set map[pair]bool) [][]bool {
	var lists [][]bool
	for loc := range a.Locs {
		list := []bool{}
		for clock := range a.Clocks {
			list = append(list, set[pair{loc, clock}])
		}
		lists = append(lists, list)
	}
	return lists
}

// refDrop returns a zone without clocks.
func refDrop(z api.Zone, active []bool) api.Zone {
	z, ok := dbm.Close(z)
	if !ok || len(active) != z.Size {
		return api.Zone{}
	}
	for i := range active {
		if !active[i] {
			z = dbm.Free(z, i+1)
		}
	}
	return z
}

// refInvariant applies the invariant of a location.
func refInvariant(a api.Automaton, loc int, z api.Zone) api.Zone {
	for clock, upper := range a.Locs[loc].Upper {
		if upper != api.Infinite {
			z, _ = dbm.Meet(z, clock+1, 0, upper)
		}
	}
	return z
}

// refNext returns the next zone of the active graph, or the zero zone.
func refNext(a api.Automaton, z api.Zone, e api.Edge) api.Zone {
	for _, g := range e.Guards {
		z, _ = dbm.Meet(z, 0, g.Clock+1, -g.Least)
	}
	for _, clock := range e.Resets {
		z = dbm.Reset(z, clock+1)
	}
	z = refInvariant(a, e.To, dbm.Up(refInvariant(a, e.To, z)))
	return refDrop(dbm.Widen(z, automata.Greatest(a)), refLists(a, refActive(a))[e.To])
}

// refExplore returns the active graph of a near automaton.
func refExplore(a api.Automaton) []api.Node {
	first := dbm.Widen(refInvariant(a, a.Start, dbm.Up(dbm.Zero(a.Clocks))), automata.Greatest(a))
	list := []api.Node{{Loc: a.Start, Zone: refDrop(first, refLists(a, refActive(a))[a.Start]), Parent: -1, Edge: -1}}
	for i := 0; i < len(list); i++ {
		for k, e := range a.Edges {
			if e.From != list[i].Loc {
				continue
			}
			z := refNext(a, list[i].Zone, e)
			if !dbm.Valid(z) || slices.ContainsFunc(list, func(n api.Node) bool { return n.Loc == e.To && dbm.Includes(n.Zone, z) }) {
				continue
			}
			list = append(list, api.Node{Loc: e.To, Zone: z, Parent: i, Edge: k, Depth: list[i].Depth + 1})
		}
	}
	return list
}
