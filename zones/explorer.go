package zones

import (
	"iter"
	"slices"

	"domicile/api"
	"domicile/automata"
)

// mostNear is the greatest number with which a clock of a near automaton is compared.
const mostNear = 100000000

// explorer builds the graph of an automaton.
type explorer struct {
	automaton api.Automaton
	greatest  []int
	edges     map[int][]int      // the edges from each location
	found     map[int][]api.Zone // the zones of the nodes at each location
	usable    []bool             // the edges for which a next zone was found
}

// newExplorer returns the explorer of an automaton, which has to be near.
func newExplorer(a api.Automaton) (*explorer, api.Errno) {
	if !automata.Valid(a) {
		return nil, api.ErrArg
	}
	e := &explorer{
		automaton: a, greatest: automata.Greatest(a),
		edges: map[int][]int{}, found: map[int][]api.Zone{}, usable: make([]bool, len(a.Edges)),
	}
	if slices.ContainsFunc(e.greatest, func(n int) bool { return n > mostNear }) {
		return nil, api.ErrLimit
	}
	for i, edge := range a.Edges {
		e.edges[edge.From] = append(e.edges[edge.From], i)
	}
	return e, api.OK
}

// graph returns all nodes.
func (e *explorer) graph() ([]api.Node, api.Errno) {
	var nodes []api.Node
	for n := range e.search() {
		if len(nodes) == api.MaxNodes {
			return nil, api.ErrLimit
		}
		nodes = append(nodes, n)
	}
	return nodes, api.OK
}

// search yields the nodes in breadth-first order.
func (e *explorer) search() iter.Seq[api.Node] {
	return func(yield func(api.Node) bool) {
		queue := []api.Node{e.first()}
		e.note(queue[0])
		if !yield(queue[0]) {
			return
		}
		for at := 0; at < len(queue); at++ {
			for n := range e.successors(queue[at], at) {
				queue = append(queue, n)
				e.note(n)
				if !yield(n) {
					return
				}
			}
		}
	}
}

// successors yields the nodes that follow a node with a number, as far as no earlier node includes them.
func (e *explorer) successors(n api.Node, number int) iter.Seq[api.Node] {
	return func(yield func(api.Node) bool) {
		for _, i := range e.edges[n.Loc] {
			zone, ok := e.next(n.Zone, e.automaton.Edges[i])
			if !ok {
				continue
			}
			e.usable[i] = true
			to := e.automaton.Edges[i].To
			if slices.ContainsFunc(e.found[to], func(z api.Zone) bool { return covers(z, zone) }) {
				continue
			}
			if !yield(api.Node{Loc: to, Zone: zone, Parent: number, Edge: i, Depth: n.Depth + 1}) {
				return
			}
		}
	}
}

// note keeps the zone of a node.
func (e *explorer) note(n api.Node) { e.found[n.Loc] = append(e.found[n.Loc], n.Zone) }

// covers reports whether a zone of a node includes another one: both are canonical, so that it is enough to compare their bounds, which dbm.Includes would find out anew for each pair.
func covers(a, b api.Zone) bool {
	for i, bound := range a.Bound {
		if bound < b.Bound[i] {
			return false
		}
	}
	return true
}
