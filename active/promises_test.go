package active_test

import (
	"math/rand"
	"slices"
	"testing"

	"domicile/active"
	"domicile/api"
	"domicile/automata"
	"domicile/dbm"
	"domicile/zones"
)

// closed says whether a set of pairs satisfies the three conditions.
func closed(a api.Automaton, lists [][]bool) bool {
	for i, l := range a.Locs {
		for clock, upper := range l.Upper {
			if upper != api.Infinite && !lists[i][clock] {
				return false
			}
		}
	}
	for _, e := range a.Edges {
		for _, g := range e.Guards {
			if !lists[e.From][g.Clock] {
				return false
			}
		}
		for clock := range a.Clocks {
			if lists[e.To][clock] && !slices.Contains(e.Resets, clock) && !lists[e.From][clock] {
				return false
			}
		}
	}
	return true
}

// P15.2: the active clocks are closed, and in every set that is.
func TestLeast(t *testing.T) {
	m := maker{rand.New(rand.NewSource(10))}
	sets := 0
	for range 4000 {
		a := m.automaton()
		least := active.Active(a)
		if !closed(a, least) {
			t.Errorf("%+v: %v is not closed", a, least)
		}
		for range 20 {
			other := refLists(a, nil)
			for _, l := range other {
				for clock := range l {
					l[clock] = !m.chance(3)
				}
			}
			if !closed(a, other) {
				continue
			}
			sets++
			for loc := range least {
				for clock, is := range least[loc] {
					if is && !other[loc][clock] {
						t.Errorf("%+v: %v is not in %v", a, least, other)
					}
				}
			}
		}
	}
	if sets < 1000 {
		t.Errorf("%d closed sets", sets)
	}
}

// P15.3: a zone without clocks has exactly the points that differ from points of the zone in these clocks.
func TestProjection(t *testing.T) {
	m := maker{rand.New(rand.NewSource(11))}
	inside, outside := 0, 0
	for range 3000 {
		z := dbm.Zero(1 + m.Intn(3))
		for range 8 {
			next := dbm.Up(z)
			i := m.Intn(z.Size + 1)
			if m.chance(2) {
				next = dbm.Reset(z, i)
			} else if m.chance(2) {
				next, _ = dbm.Meet(z, i, m.Intn(z.Size+1), m.Intn(9)-4)
			}
			if dbm.Valid(next) {
				z = next
			}
		}
		var some []bool
		for range z.Size {
			some = append(some, m.chance(2))
		}
		result := active.Drop(z, some)
		for range 20 {
			p := make([]int, z.Size)
			for i := range p {
				p[i] = m.Intn(8)
			}
			found := false
			others := func(yield func([]int)) {
				q := slices.Clone(p)
				var fill func(i int)
				fill = func(i int) {
					if i == len(q) {
						yield(q)
						return
					}
					if some[i] {
						fill(i + 1)
						return
					}
					for value := range 30 {
						q[i] = value
						fill(i + 1)
					}
				}
				fill(0)
			}
			others(func(q []int) { found = found || dbm.Contains(z, q) })
			if dbm.Contains(result, p) != found {
				t.Fatalf("Drop(%v, %v) = %v is wrong for %v", z, some, result, p)
			}
			if found {
				inside++
			} else {
				outside++
			}
		}
	}
	if min(inside, outside) < 5000 {
		t.Errorf("%d points inside, %d outside", inside, outside)
	}
}

// differ says whether two configurations differ only in clocks that are not active.
func differ(lists [][]bool, a, b api.Config) bool {
	if a.Loc != b.Loc {
		return false
	}
	for clock := range a.Clocks {
		if a.Clocks[clock] != b.Clocks[clock] && lists[a.Loc][clock] {
			return false
		}
	}
	return true
}

// P15.4: the values of clocks that are not active do not matter.
func TestValues(t *testing.T) {
	m := maker{rand.New(rand.NewSource(12))}
	changed := 0
	for range 4000 {
		a := m.automaton()
		lists := active.Active(a)
		run, _ := automata.Run(a, m.walk(a, 6))
		for _, c := range append(run, automata.Start(a)) {
			other := api.Config{Loc: c.Loc, Clocks: slices.Clone(c.Clocks)}
			for clock := range other.Clocks {
				if !lists[c.Loc][clock] {
					other.Clocks[clock] = m.Intn(100)
					changed++
				}
			}
			if !slices.Equal(automata.Enabled(a, c), automata.Enabled(a, other)) {
				t.Errorf("%+v: %v and %v have different edges", a, c, other)
			}
			n := m.Intn(5)
			x, errX := automata.Wait(a, c, n)
			y, errY := automata.Wait(a, other, n)
			if errX != errY || errX == api.OK && !differ(lists, x, y) {
				t.Errorf("%+v: %v and %v become %v and %v", a, c, other, x, y)
			}
			for _, i := range automata.Enabled(a, c) {
				x, _ := automata.Take(a, c, i)
				if y, err := automata.Take(a, other, i); err != api.OK || !differ(lists, x, y) {
					t.Errorf("%+v: %v and %v become %v and %v", a, c, other, x, y)
				}
			}
		}
	}
	if changed < 2000 {
		t.Errorf("%d clocks were changed", changed)
	}
}

// P15.5: clocks that are not active are free; each node follows from its parent, and depths do not decrease.
func TestNodes(t *testing.T) {
	m := maker{rand.New(rand.NewSource(13))}
	for range 2000 {
		a := m.automaton()
		lists := active.Active(a)
		nodes, _ := active.Explore(a)
		for i, n := range nodes {
			for clock, is := range lists[n.Loc] {
				if !is && !slices.Equal(dbm.Free(n.Zone, clock+1).Bound, n.Zone.Bound) {
					t.Errorf("%+v: the clock %v of %+v is not free", a, clock, n)
				}
			}
			if i == 0 {
				continue
			}
			parent := nodes[n.Parent]
			if e := a.Edges[n.Edge]; n.Parent >= i || e.From != parent.Loc || e.To != n.Loc || !same(refNext(a, parent.Zone, e), n.Zone) {
				t.Errorf("%+v: %+v does not follow from %+v", a, n, parent)
			}
			if n.Depth < nodes[i-1].Depth || n.Depth != parent.Depth+1 {
				t.Errorf("%+v: the depths of %+v", a, nodes)
			}
		}
	}
}

// P15.6: each configuration of a run is in the zone of a node that is not deeper.
func TestRuns(t *testing.T) {
	m := maker{rand.New(rand.NewSource(14))}
	configs := 0
	for range 3000 {
		a := m.automaton()
		nodes, _ := active.Explore(a)
		l := m.walk(a, 8)
		run, _ := automata.Run(a, l)
		edges := 0
		for i, c := range run {
			if l[i].Edge != -1 {
				edges++
			}
			configs++
			if !slices.ContainsFunc(nodes, func(n api.Node) bool {
				return n.Loc == c.Loc && n.Depth <= edges && dbm.Contains(n.Zone, c.Clocks)
			}) {
				t.Errorf("%+v: %v after %v is in no node", a, c, l[:i+1])
			}
		}
	}
	if configs < 5000 {
		t.Errorf("%d configurations", configs)
	}
}

// depths returns the least depth at which each location occurs.
func depths(nodes []api.Node) map[int]int {
	list := map[int]int{}
	for _, n := range nodes {
		if depth, ok := list[n.Loc]; !ok || n.Depth < depth {
			list[n.Loc] = n.Depth
		}
	}
	return list
}

// P15.7, P15.8: the active graph has the same locations with the same least depths; if all clocks are active, it is the same graph.
func TestSameGraph(t *testing.T) {
	m := maker{rand.New(rand.NewSource(15))}
	fewer, equal := 0, 0
	for range 4000 {
		a := m.automaton()
		nodes, _ := active.Explore(a)
		all, _ := zones.Explore(a)
		if !same(depths(nodes), depths(all)) {
			t.Errorf("%+v: the locations are %v, want %v", a, depths(nodes), depths(all))
		}
		if len(nodes) < len(all) {
			fewer++
		}
		for i := range a.Locs {
			for clock := range a.Clocks {
				a.Locs[i].Upper[clock] = min(a.Locs[i].Upper[clock], m.Intn(9))
			}
		}
		nodes, _ = active.Explore(a)
		all, _ = zones.Explore(a)
		if !same(nodes, all) {
			t.Errorf("%+v: the graphs %v and %v", a, nodes, all)
		}
		if len(nodes) > 3 {
			equal++
		}
	}
	if fewer < 100 || equal < 300 {
		t.Errorf("%d smaller graphs, %d equal ones", fewer, equal)
	}
}
