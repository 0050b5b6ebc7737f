package replay

import (
	"iter"

	"domicile/api"
)

// arc says that the time of one node is at least that of another one, plus a number. The node 0 is the start of a run, which has the time 0; the node i + 1 is the edge i of a path.
type arc struct{ from, to, more int }

// constraints yields what the times of a path have to satisfy.
func constraints(a api.Automaton, path []int) iter.Seq[arc] {
	return func(yield func(arc) bool) {
		reset := make([]int, a.Clocks) // the node at which each clock was 0 last
		for i, index := range path {
			node, e := i+1, a.Edges[index]
			if !yield(arc{i, node, 0}) {
				return
			}
			for _, g := range e.Guards {
				if !yield(arc{reset[g.Clock], node, g.Least}) {
					return
				}
			}
			if !stays(a.Locs[e.From], reset, node, yield) {
				return
			}
			for _, clock := range e.Resets {
				reset[clock] = node
			}
			if !stays(a.Locs[e.To], reset, node, yield) {
				return
			}
		}
	}
}

// stays yields what the invariant of a location asks for at a node, and reports whether more is wanted.
func stays(l api.Loc, reset []int, node int, yield func(arc) bool) bool {
	for clock, upper := range l.Upper {
		if upper != api.Infinite && !yield(arc{node, reset[clock], -upper}) {
			return false
		}
	}
	return true
}

// leastTimes returns the least times of nodes that satisfy all constraints, and whether there are any: the greatest lengths of paths to the nodes.
func leastTimes(nodes int, all iter.Seq[arc]) ([]int, bool) {
	exits := make([][]arc, nodes)
	for c := range all {
		exits[c.from] = append(exits[c.from], c)
	}
	times := make([]int, nodes)
	waiting := make([]bool, nodes)
	entered := make([]int, nodes)
	var queue []int
	enter := func(node int) {
		if !waiting[node] {
			waiting[node] = true
			entered[node]++
			queue = append(queue, node)
		}
	}
	for node := range nodes {
		enter(node)
	}
	endless := false
search:
	for len(queue) > 0 {
		node := queue[0]
		queue = queue[1:]
		waiting[node] = false
		for _, c := range exits[node] {
			if times[node]+c.more <= times[c.to] {
				continue
			}
			// The start cannot be later; a node that becomes later again and again is on a path that leads to itself, and has a length above 0.
			if c.to == 0 || entered[c.to] > nodes+1 {
				endless = true
				break search
			}
			times[c.to] = times[node] + c.more
			enter(c.to)
		}
	}
	return times, !endless
}
