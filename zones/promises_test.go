package zones_test

import (
	"math/rand"
	"slices"
	"testing"

	"domicile/api"
	"domicile/automata"
	"domicile/dbm"
	"domicile/zones"
)

// explore returns the graph of an automaton, which has to exist.
func explore(t *testing.T, a api.Automaton) []api.Node {
	t.Helper()
	nodes, err := zones.Explore(a)
	if err != api.OK {
		t.Fatalf("Explore(%+v): %v", a, err)
	}
	return nodes
}

// P14.2: each node follows from its parent by its edge, in breadth-first order, and is in no earlier node.
func TestNodes(t *testing.T) {
	m := maker{rand.New(rand.NewSource(10))}
	for range 2000 {
		a := m.automaton()
		nodes := explore(t, a)
		for i, n := range nodes {
			if i == 0 {
				continue
			}
			before, parent := nodes[i-1], nodes[n.Parent]
			if n.Parent >= i || n.Depth != parent.Depth+1 || n.Depth < before.Depth || n.Parent < before.Parent || n.Parent == before.Parent && n.Edge <= before.Edge {
				t.Errorf("%+v: %+v after %+v", a, n, before)
			}
			if e := a.Edges[n.Edge]; e.From != parent.Loc || e.To != n.Loc || !slices.Equal(refNext(a, parent.Zone, e, true).Bound, n.Zone.Bound) {
				t.Errorf("%+v: %+v does not follow from %+v", a, n, parent)
			}
			for _, earlier := range nodes[:i] {
				if earlier.Loc == n.Loc && dbm.Includes(earlier.Zone, n.Zone) {
					t.Errorf("%+v: %+v is in %+v", a, n, earlier)
				}
			}
		}
	}
}

// P14.3: each configuration of a run is in the zone of a node with at most as many edges.
func TestRunsHaveNodes(t *testing.T) {
	m := maker{rand.New(rand.NewSource(11))}
	configs := 0
	for range 3000 {
		a := m.automaton()
		nodes := explore(t, a)
		l := m.walk(a, 8)
		if m.chance(3) {
			for i := range l {
				l[i].Wait += m.Intn(100000)
			}
		}
		run, err := automata.Run(a, l)
		if err != api.OK {
			continue
		}
		edges := 0
		for i, c := range run {
			if l[i].Edge != -1 {
				edges++
			}
			configs++
			if !slices.ContainsFunc(nodes, func(n api.Node) bool {
				return n.Loc == c.Loc && n.Depth <= edges && dbm.Contains(n.Zone, c.Clocks)
			}) {
				t.Errorf("%+v: %v after %v is in no node", a, c, l[:i+1])
			}
		}
	}
	if configs < 5000 {
		t.Errorf("%d configurations", configs)
	}
}

// P14.4: a run takes the edges of each node's path, and none of the zones on its way lacks a canonical form.
func TestNodesHaveRuns(t *testing.T) {
	m := maker{rand.New(rand.NewSource(12))}
	for range 1500 {
		a := m.automaton()
		nodes := explore(t, a)
		for i, n := range nodes {
			path := zones.Path(nodes, i)
			if len(path) != n.Depth || !hasRun(a, path) {
				t.Errorf("%+v: no run takes %v", a, path)
			}
			z := refInvariant(a, a.Start, dbm.Up(dbm.Zero(a.Clocks)))
			for _, e := range path {
				z = refNext(a, z, a.Edges[e], false)
			}
			if !dbm.Valid(z) {
				t.Errorf("%+v: the zones of %v", a, path)
			}
		}
	}
}

// P14.5, P14.6: Reach and Usable find what exploring second by second finds, with as few edges.
func TestSeconds(t *testing.T) {
	m := maker{rand.New(rand.NewSource(13))}
	reached, unreached, used, unused := 0, 0, 0, 0
	for range 3000 {
		a := m.automaton()
		depths, taken := seconds(a)
		for loc := range a.Locs {
			path, err := zones.Reach(a, loc)
			depth, ok := depths[loc]
			if (err == api.OK) != ok || ok && len(path) != depth {
				t.Errorf("Reach(%+v, %v) = %v, %v, want %v edges, %v", a, loc, path, err, depth, ok)
			}
			if ok {
				reached++
			} else {
				unreached++
			}
		}
		usable, _ := zones.Usable(a)
		for i := range a.Edges {
			if usable[i] != taken[i] {
				t.Errorf("%+v: the edge %v is usable: %v", a, i, usable[i])
			}
			if usable[i] {
				used++
			} else {
				unused++
			}
		}
	}
	if min(reached, unreached, used, unused) < 1000 {
		t.Errorf("%d, %d, %d, %d", reached, unreached, used, unused)
	}
}

// P14.7: waiting leads from points of a zone to points of it.
func TestWaiting(t *testing.T) {
	m := maker{rand.New(rand.NewSource(14))}
	points := 0
	for range 2000 {
		a := m.automaton()
		for _, n := range explore(t, a) {
			for range 20 {
				p := make([]int, a.Clocks)
				for i := range p {
					p[i] = m.Intn(9)
				}
				if least, _ := dbm.Point(n.Zone); m.chance(4) {
					p = least
				}
				c := api.Config{Loc: n.Loc, Clocks: p}
				waited, err := automata.Wait(a, c, m.Intn(4))
				if err != api.OK || !dbm.Contains(n.Zone, p) {
					continue
				}
				points++
				if !dbm.Contains(n.Zone, waited.Clocks) {
					t.Errorf("%+v: from %v waiting leads to %v", a, n, waited)
				}
			}
		}
	}
	if points < 5000 {
		t.Errorf("%d points", points)
	}
}

// P14.8: labels, and locations and edges that cannot be reached, do not matter.
func TestUnreached(t *testing.T) {
	m := maker{rand.New(rand.NewSource(15))}
	for range 2000 {
		a := m.automaton()
		nodes := explore(t, a)
		for i := range a.Edges {
			a.Edges[i].Label = m.Intn(100) - 50
		}
		if again := explore(t, a); !same(again, nodes) {
			t.Errorf("%+v: with other labels %v, and before %v", a, again, nodes)
		}
		usable, _ := zones.Usable(a)
		a.Locs = append(a.Locs, a.Locs[m.Intn(len(a.Locs))])
		for range 3 {
			e := m.edge(a)
			e.From = len(a.Locs) - 1
			// Greater numbers would widen less.
			for i := range e.Guards {
				e.Guards[i].Least = min(e.Guards[i].Least, automata.Greatest(api.Automaton{Clocks: a.Clocks, Start: a.Start, Locs: a.Locs, Edges: a.Edges[:len(usable)]})[e.Guards[i].Clock])
			}
			a.Edges = append(a.Edges, e)
		}
		more, _ := zones.Usable(a)
		if again := explore(t, a); !same(again, nodes) || !slices.Equal(more, append(usable, false, false, false)) {
			t.Errorf("%+v: with more locations %v, and before %v", a, again, nodes)
		}
	}
}
