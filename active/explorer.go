package active

import (
	"iter"
	"slices"

	"domicile/api"
	"domicile/automata"
	"domicile/dbm"
)

// mostNear is the greatest number with which a clock of a near automaton is compared.
const mostNear = 100000000

// explorer builds the active graph of the automaton that it embeds.
type explorer struct {
	api.Automaton
	greatest []int
	active   [][]bool
	exits    [][]int      // the edges from each location
	found    [][]api.Zone // the zones of the nodes at each location
}

// newExplorer returns the explorer of a well-formed automaton.
func newExplorer(a api.Automaton) *explorer {
	e := &explorer{
		Automaton: a, greatest: automata.Greatest(a), active: Active(a),
		exits: make([][]int, len(a.Locs)), found: make([][]api.Zone, len(a.Locs)),
	}
	for i, edge := range e.Edges {
		e.exits[edge.From] = append(e.exits[edge.From], i)
	}
	return e
}

// isNear reports whether clocks are compared with small numbers only.
func (e *explorer) isNear() bool {
	return !slices.ContainsFunc(e.greatest, func(n int) bool { return n > mostNear })
}

// nodes yields the nodes of the graph, in breadth-first order.
func (e *explorer) nodes() iter.Seq[api.Node] {
	return func(yield func(api.Node) bool) {
		var queue []api.Node
		add := func(n api.Node) bool {
			queue = append(queue, n)
			e.found[n.Loc] = append(e.found[n.Loc], n.Zone)
			return yield(n)
		}
		zone, _ := apply(dbm.Zero(e.Clocks), e.stay(e.Start))
		if !add(api.Node{Loc: e.Start, Zone: zone, Parent: -1, Edge: -1}) {
			return
		}
		for at := 0; at < len(queue); at++ {
			for _, i := range e.exits[queue[at].Loc] {
				to := e.Edges[i].To
				next, ok := apply(queue[at].Zone, e.through(e.Edges[i]))
				if ok && !e.covered(to, next) && !add(api.Node{Loc: to, Zone: next, Parent: at, Edge: i, Depth: queue[at].Depth + 1}) {
					return
				}
			}
		}
	}
}

// covered reports whether the zone of a node at a location includes a zone.
func (e *explorer) covered(loc int, z api.Zone) bool {
	return slices.ContainsFunc(e.found[loc], func(earlier api.Zone) bool { return covers(earlier, z) })
}

// covers reports whether a zone of a node includes another one: both are canonical, so that it is enough to compare their bounds, which dbm.Includes would find out anew for each pair.
func covers(a, b api.Zone) bool {
	for i, bound := range a.Bound {
		if bound < b.Bound[i] {
			return false
		}
	}
	return true
}

// change is a part of a step; it reports whether something is left of the zone.
type change func(z api.Zone) (api.Zone, bool)

// apply applies changes to a zone, one after the other, as long as something is left of it.
func apply(z api.Zone, changes []change) (api.Zone, bool) {
	ok := true
	for i := 0; ok && i < len(changes); i++ {
		z, ok = changes[i](z)
	}
	return z, ok
}

// through returns the changes of a step through an edge.
func (e *explorer) through(edge api.Edge) []change {
	var list []change
	for _, g := range edge.Guards {
		list = append(list, func(z api.Zone) (api.Zone, bool) { return dbm.Meet(z, 0, g.Clock+1, -g.Least) })
	}
	for _, clock := range edge.Resets {
		list = append(list, func(z api.Zone) (api.Zone, bool) { return dbm.Reset(z, clock+1), true })
	}
	list = append(list, e.invariant(edge.To)...)
	return append(list, e.stay(edge.To)...)
}

// stay returns the changes of waiting in a location, and of leaving out what does not matter there.
func (e *explorer) stay(loc int) []change {
	list := []change{func(z api.Zone) (api.Zone, bool) { return dbm.Up(z), true }}
	list = append(list, e.invariant(loc)...)
	return append(list,
		func(z api.Zone) (api.Zone, bool) { return dbm.Widen(z, e.greatest), true },
		func(z api.Zone) (api.Zone, bool) { return Drop(z, e.active[loc]), true })
}

// invariant returns the changes that apply the invariant of a location.
func (e *explorer) invariant(loc int) []change {
	var list []change
	for clock, upper := range e.Locs[loc].Upper {
		if upper != api.Infinite {
			list = append(list, func(z api.Zone) (api.Zone, bool) { return dbm.Meet(z, clock+1, 0, upper) })
		}
	}
	return list
}
