package analyse

import (
	"iter"
	"maps"
	"slices"

	"domicile/api"
	"domicile/dbm"
	"domicile/replay"
	"domicile/translate"
	"domicile/zones"
)

// none is the value of fields of findings without a meaning.
const none = -1

// key is a finding without its run.
type key struct{ kind, first, second, variable, law int }

// exit is an edge that is possible at a node.
type exit struct{ node, edge int }

// search is the search for findings about the model of a group.
type search struct {
	image api.Image
	nodes []api.Node
}

// partFindings returns the findings about the model of a group.
func partFindings(part api.Model) ([]api.Finding, api.Errno) {
	image, err := translate.Build(part)
	if err != api.OK {
		return nil, err
	}
	nodes, err := zones.Explore(image.Automaton)
	if err != api.OK {
		return nil, err
	}
	s := search{image: image, nodes: nodes}
	first, fired := s.collect()
	var list []api.Finding
	for _, k := range slices.SortedFunc(maps.Keys(first), compareKeys) {
		run, err := s.run(first[k])
		if err != api.OK {
			return nil, err
		}
		list = append(list, k.finding(run))
	}
	for rule := range part.Rules {
		if !fired[rule] {
			list = append(list, key{api.FindDead, rule, none, none, none}.finding(nil))
		}
	}
	return list, api.OK
}

// finding returns a finding with a run.
func (k key) finding(run []api.Input) api.Finding {
	return api.Finding{Kind: k.kind, First: k.first, Second: k.second, Var: k.variable, Law: k.law, Run: run}
}

// compareKeys orders findings, so that they are computed in an order that does not depend on that of a map.
func compareKeys(a, b key) int { return compareFindings(a.finding(nil), b.finding(nil)) }

// collect returns all findings with the first place at which each is found, and the rules that fire at all.
func (s search) collect() (map[key]exit, map[int]bool) {
	first, fired := map[key]exit{}, map[int]bool{}
	for e := range s.exits() {
		label := s.image.Labels[e.edge]
		for _, rule := range label.Rules {
			fired[rule] = true
		}
		for k := range inLabel(label) {
			if _, ok := first[k]; !ok {
				first[k] = e
			}
		}
	}
	return first, fired
}

// exits yields the edges that are possible, each at the first node at which it is, by node and edge: at further nodes, it would show nothing new.
func (s search) exits() iter.Seq[exit] {
	return func(yield func(exit) bool) {
		waiting := make([][]int, len(s.image.Automaton.Locs))
		for i, e := range s.image.Automaton.Edges {
			waiting[e.From] = append(waiting[e.From], i)
		}
		for number, n := range s.nodes {
			var left []int
			for _, edge := range waiting[n.Loc] {
				if !s.isPossible(n.Zone, s.image.Automaton.Edges[edge]) {
					left = append(left, edge)
				} else if !yield(exit{number, edge}) {
					return
				}
			}
			waiting[n.Loc] = left
		}
	}
}

// isPossible reports whether there is a next zone for a zone and an edge. Waiting and widening, which follow, leave something of each zone.
func (s search) isPossible(z api.Zone, e api.Edge) bool {
	ok := true
	meet := func(i, j, bound int) {
		if ok {
			z, ok = dbm.Meet(z, i, j, bound)
		}
	}
	for _, g := range e.Guards {
		meet(0, g.Clock+1, -g.Least)
	}
	for _, clock := range e.Resets {
		z = dbm.Reset(z, clock+1)
	}
	for clock, upper := range s.image.Automaton.Locs[e.To].Upper {
		if upper != api.Infinite {
			meet(clock+1, 0, upper)
		}
	}
	return ok
}

// inLabel yields the findings in a label.
func inLabel(l api.Label) iter.Seq[key] {
	return func(yield func(key) bool) {
		for _, c := range l.Clashes {
			if !yield(key{api.FindClash, c.First, c.Second, c.Var, none}) {
				return
			}
		}
		if l.Endless && !yield(key{api.FindEndless, l.Rules[0], none, none, none}) {
			return
		}
		if l.Law != none {
			yield(key{api.FindLaw, none, none, none, l.Law})
		}
	}
}

// run returns the inputs of the earliest run to an edge.
func (s search) run(e exit) ([]api.Input, api.Errno) {
	path := append(zones.Path(s.nodes, e.node), e.edge)
	waits, ok := replay.Times(s.image.Automaton, path)
	if !ok {
		// Each path of the graph has times, unless it is too long.
		return nil, api.ErrLimit
	}
	return replay.Inputs(s.image, path, waits)
}
