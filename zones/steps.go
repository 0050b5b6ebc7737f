package zones

import (
	"slices"

	"domicile/api"
	"domicile/dbm"
)

// step is a change of a zone; it reports whether something is left of the zone.
type step func(z api.Zone) (api.Zone, bool)

// fold applies steps to a zone, one after the other, as long as something is left of it.
func fold(z api.Zone, steps ...step) (api.Zone, bool) {
	for _, s := range steps {
		next, ok := s(z)
		if !ok {
			return api.Zone{}, false
		}
		z = next
	}
	return z, true
}

// always returns the step of an operation that leaves something of each zone.
func always(operation func(z api.Zone) api.Zone) step {
	return func(z api.Zone) (api.Zone, bool) { return operation(z), true }
}

// first returns the first node.
func (e *explorer) first() api.Node {
	start := e.automaton.Start
	// All clocks are 0 at first, which each invariant permits.
	zone, _ := fold(dbm.Zero(e.automaton.Clocks), append(e.waiting(start), e.widening())...)
	return api.Node{Loc: start, Zone: zone, Parent: -1, Edge: -1}
}

// next returns the next zone for a zone and an edge, and whether there is one.
func (e *explorer) next(z api.Zone, edge api.Edge) (api.Zone, bool) {
	var steps []step
	for _, g := range edge.Guards {
		steps = append(steps, func(z api.Zone) (api.Zone, bool) { return dbm.Meet(z, 0, g.Clock+1, -g.Least) })
	}
	for _, clock := range edge.Resets {
		steps = append(steps, always(func(z api.Zone) api.Zone { return dbm.Reset(z, clock+1) }))
	}
	return fold(z, slices.Concat(steps, e.invariant(edge.To), e.waiting(edge.To), []step{e.widening()})...)
}

// invariant returns the steps that apply the invariant of a location.
func (e *explorer) invariant(loc int) []step {
	var steps []step
	for clock, upper := range e.automaton.Locs[loc].Upper {
		if upper != api.Infinite {
			steps = append(steps, func(z api.Zone) (api.Zone, bool) { return dbm.Meet(z, clock+1, 0, upper) })
		}
	}
	return steps
}

// waiting returns the steps of waiting in a location.
func (e *explorer) waiting(loc int) []step {
	return append([]step{always(dbm.Up)}, e.invariant(loc)...)
}

// widening returns the step that leaves out what no guard and no invariant can tell apart.
func (e *explorer) widening() step {
	return always(func(z api.Zone) api.Zone { return dbm.Widen(z, e.greatest) })
}
