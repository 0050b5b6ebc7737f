package zones_test

import (
	"fmt"
	"slices"

	"domicile/api"
	"domicile/automata"
	"domicile/dbm"
)

// refNear says whether an automaton is near.
func refNear(a api.Automaton) bool {
	for _, n := range automata.Greatest(a) {
		if n > 100000000 {
			return false
		}
	}
	return automata.Valid(a)
}

// refInvariant applies the invariant of a location.
func refInvariant(a api.Automaton, loc int, z api.Zone) api.Zone {
	for clock, upper := range a.Locs[loc].Upper {
		if upper != api.Infinite {
			z, _ = dbm.Meet(z, clock+1, 0, upper)
		}
	}
	return z
}

// refNext returns the next zone, or the zero zone: without a canonical form, all that follows is the zero zone as well.
func refNext(a api.Automaton, z api.Zone, e api.Edge, widen bool) api.Zone {
	for _, g := range e.Guards {
		z, _ = dbm.Meet(z, 0, g.Clock+1, -g.Least)
	}
	for _, clock := range e.Resets {
		z = dbm.Reset(z, clock+1)
	}
	z = refInvariant(a, e.To, dbm.Up(refInvariant(a, e.To, z)))
	if widen {
		z = dbm.Widen(z, automata.Greatest(a))
	}
	return z
}

// refFirst returns the first zone.
func refFirst(a api.Automaton) api.Zone {
	return dbm.Widen(refInvariant(a, a.Start, dbm.Up(dbm.Zero(a.Clocks))), automata.Greatest(a))
}

// refExplore returns the graph of a near automaton.
func refExplore(a api.Automaton) []api.Node {
	list := []api.Node{{Loc: a.Start, Zone: refFirst(a), Parent: -1, Edge: -1}}
	for i := 0; i < len(list); i++ {
		for k, e := range a.Edges {
			if e.From != list[i].Loc {
				continue
			}
			z := refNext(a, list[i].Zone, e, true)
			if !dbm.Valid(z) || slices.ContainsFunc(list, func(n api.Node) bool { return n.Loc == e.To && dbm.Includes(n.Zone, z) }) {
				continue
			}
			list = append(list, api.Node{Loc: e.To, Zone: z, Parent: i, Edge: k, Depth: list[i].Depth + 1})
		}
	}
	return list
}

// seconds explores an automaton second by second, where values above the greatest numbers count as one. It returns the least number of edges to each location, and the edges that are taken.
func seconds(a api.Automaton) (map[int]int, map[int]bool) {
	greatest := automata.Greatest(a)
	depths, taken := map[int]int{}, map[int]bool{}
	found := map[string]bool{}
	level := []api.Config{automata.Start(a)}
	for depth := 0; len(level) > 0; depth++ {
		var next []api.Config
		for i := 0; i < len(level); i++ {
			c := level[i]
			for clock := range c.Clocks {
				c.Clocks[clock] = min(c.Clocks[clock], greatest[clock]+1)
			}
			key := fmt.Sprint(c)
			if found[key] {
				continue
			}
			found[key] = true
			if _, ok := depths[c.Loc]; !ok {
				depths[c.Loc] = depth
			}
			if waited, err := automata.Wait(a, c, 1); err == api.OK {
				level = append(level, waited)
			}
			for _, e := range automata.Enabled(a, c) {
				taken[e] = true
				after, _ := automata.Take(a, c, e)
				next = append(next, after)
			}
		}
		level = next
	}
	return depths, taken
}

// hasRun says whether a run takes the edges of a path.
func hasRun(a api.Automaton, path []int) bool {
	greatest := automata.Greatest(a)
	now := map[string]api.Config{"": automata.Start(a)}
	for _, e := range path {
		next := map[string]api.Config{}
		for _, c := range now {
			for range 12 {
				if after, err := automata.Take(a, c, e); err == api.OK {
					for clock := range after.Clocks {
						after.Clocks[clock] = min(after.Clocks[clock], greatest[clock]+1)
					}
					next[fmt.Sprint(after)] = after
				}
				waited, err := automata.Wait(a, c, 1)
				if err != api.OK {
					break
				}
				c = waited
			}
		}
		now = next
	}
	return len(now) > 0
}
