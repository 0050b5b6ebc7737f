package active_test

import (
	"fmt"
	"math/rand"
	"testing"

	"domicile/active"
	"domicile/api"
	"domicile/dbm"
)

// example returns the automaton of the chapter's examples.
func example() api.Automaton {
	free := api.Infinite
	return api.Automaton{Clocks: 2, Locs: []api.Loc{{Upper: []int{5, free}}, {Upper: []int{free, free}}}, Edges: []api.Edge{
		{From: 0, To: 1, Guards: []api.Guard{{Clock: 1, Least: 2}}, Resets: []int{0, 1}},
		{From: 1, To: 0, Resets: []int{0}},
	}}
}

// same reports whether two values are equal, where nil slices are empty ones.
func same(a, b any) bool { return fmt.Sprintf("%+v", a) == fmt.Sprintf("%+v", b) }

// P15.1: the examples of the chapter.
func TestExamples(t *testing.T) {
	if got := active.Active(example()); !same(got, [][]bool{{true, true}, {false, true}}) {
		t.Errorf("the active clocks are %v", got)
	}
	z := active.Drop(dbm.Zero(2), []bool{false, true})
	if want := (api.Zone{Size: 2, Bound: []int{0, 0, 0, api.Infinite, 0, api.Infinite, 0, 0, 0}}); !same(z, want) {
		t.Errorf("the zone is %v, want %v", z, want)
	}
	for _, p := range [][]int{{0, 0}, {7, 0}, {1000000000, 0}} {
		if !dbm.Contains(z, p) || dbm.Contains(z, []int{p[0], 1}) {
			t.Errorf("the zone %v does not contain %v", z, p)
		}
	}
	nodes, err := active.Explore(example())
	if err != api.OK || !same(nodes, refExplore(example())) || len(nodes) < 2 {
		t.Errorf("the graph is %+v, %v", nodes, err)
	}
}

// P15.1: what makes a clock active, condition by condition.
func TestConditions(t *testing.T) {
	free := api.Infinite
	locs := func(uppers ...int) []api.Loc {
		var l []api.Loc
		for _, u := range uppers {
			l = append(l, api.Loc{Upper: []int{u}})
		}
		return l
	}
	for i, test := range []struct {
		a    api.Automaton
		want [][]bool
	}{
		{api.Automaton{Clocks: 1, Locs: locs(free, 0, 1000000000)}, [][]bool{{false}, {true}, {true}}},
		{api.Automaton{Clocks: 1, Locs: locs(free, free), Edges: []api.Edge{{To: 1, Guards: []api.Guard{{}}}}}, [][]bool{{true}, {false}}},
		{api.Automaton{Clocks: 1, Locs: locs(free, 7), Edges: []api.Edge{{To: 1}}}, [][]bool{{true}, {true}}},
		{api.Automaton{Clocks: 1, Locs: locs(free, 7), Edges: []api.Edge{{To: 1, Resets: []int{0}}}}, [][]bool{{false}, {true}}},
		{api.Automaton{Clocks: 1, Locs: locs(free, free, 7), Edges: []api.Edge{{From: 0, To: 1}, {From: 1, To: 2}}}, [][]bool{{true}, {true}, {true}}},
		{api.Automaton{Clocks: 1, Locs: locs(7, free), Edges: []api.Edge{{From: 0, To: 1}, {From: 1, To: 1}}}, [][]bool{{true}, {false}}},
		{api.Automaton{Clocks: 1, Locs: locs(free, free), Edges: []api.Edge{{From: 0, To: 1}, {From: 1, To: 0}}}, [][]bool{{false}, {false}}},
		// A guard on a clock that the edge resets still compares it.
		{api.Automaton{Clocks: 1, Locs: locs(free, free), Edges: []api.Edge{{From: 0, To: 1, Guards: []api.Guard{{Least: 3}}, Resets: []int{0}}}}, [][]bool{{true}, {false}}},
		{api.Automaton{Locs: []api.Loc{{}, {}}}, [][]bool{{}, {}}},
	} {
		if got := active.Active(test.a); !same(got, test.want) {
			t.Errorf("%d: Active(%+v) = %v, want %v", i, test.a, got, test.want)
		}
	}
}

// chain returns an automaton with 400 locations in a row, of which the last one compares all clocks.
func chain() api.Automaton {
	a := api.Automaton{Clocks: 12}
	for i := range 400 {
		l := api.Loc{}
		for range 12 {
			l.Upper = append(l.Upper, map[bool]int{true: 9, false: api.Infinite}[i == 399])
		}
		a.Locs = append(a.Locs, l)
		if i > 0 {
			for range 20 {
				a.Edges = append(a.Edges, api.Edge{From: i - 1, To: i})
			}
		}
	}
	return a
}

// P15.1: the errors, the limits, and arguments without a result.
func TestErrors(t *testing.T) {
	bad := example()
	bad.Start = 2
	if nodes, err := active.Explore(bad); err != api.ErrArg || len(nodes)+len(active.Active(bad)) > 0 {
		t.Errorf("an automaton that is not well-formed: %v, %v", nodes, err)
	}
	far := example()
	far.Locs[0].Upper[0] = 100000000
	if nodes, err := active.Explore(far); err != api.OK || len(nodes) < 2 {
		t.Errorf("a near automaton: %v, %v", nodes, err)
	}
	far.Locs[0].Upper[0]++
	if nodes, err := active.Explore(far); err != api.ErrLimit || len(nodes) > 0 || len(active.Active(far)) != 2 {
		t.Errorf("an automaton that is not near: %v, %v", nodes, err)
	}
	far.Edges[0].Guards[0].Clock = 2
	if _, err := active.Explore(far); err != api.ErrArg {
		t.Errorf("both errors: %v", err)
	}
	for n := 3990; n < 4010; n++ {
		// One clock is reset each second, while the other one goes on: one node for each second in which the location can be entered.
		a := api.Automaton{Clocks: 2, Locs: []api.Loc{{Upper: []int{1, n}}}, Edges: []api.Edge{
			{Guards: []api.Guard{{Clock: 0, Least: 1}}, Resets: []int{0}},
		}}
		nodes, err := active.Explore(a)
		if count := n + 1; count <= 4000 && (err != api.OK || len(nodes) != count) || count > 4000 && (err != api.ErrLimit || len(nodes) > 0) {
			t.Errorf("%d nodes: %d, %v", count, len(nodes), err)
		}
	}
	if got := active.Active(chain()); !got[0][0] || !got[0][11] || len(got) != 400 {
		t.Errorf("the first location of a long chain: %v", got[0])
	}
	none := api.Zone{Size: 2, Bound: []int{0, -4, 0, 3, 0, 0, 0, 0, 0}}
	for _, test := range []struct {
		z      api.Zone
		active []bool
	}{{api.Zone{}, nil}, {none, []bool{true, true}}, {dbm.Zero(2), []bool{true}}, {dbm.Zero(2), []bool{true, true, true}}, {dbm.Zero(2), nil}, {api.Zone{Size: 1, Bound: []int{0}}, []bool{true}}} {
		if got := active.Drop(test.z, test.active); !same(got, api.Zone{}) {
			t.Errorf("Drop(%v, %v) = %v", test.z, test.active, got)
		}
	}
	open := api.Zone{Size: 1, Bound: []int{5, 7, 9, 3}}
	if got := active.Drop(open, []bool{true}); !same(got, api.Zone{Size: 1, Bound: []int{0, 0, 9, 0}}) {
		t.Errorf("Drop of no clock is %v", got)
	}
}

// P15.1: random automata have the results of the reference.
func TestReference(t *testing.T) {
	m := maker{rand.New(rand.NewSource(1))}
	dropped, large := 0, 0
	for range 4000 {
		a := m.automaton()
		want := refLists(a, refActive(a))
		if got := active.Active(a); !same(got, want) {
			t.Errorf("Active(%+v) = %v, want %v", a, got, want)
		}
		nodes, err := active.Explore(a)
		if err != api.OK || !same(nodes, refExplore(a)) {
			t.Errorf("Explore(%+v) = %+v, %v, want %+v", a, nodes, err, refExplore(a))
		}
		if len(nodes) > 4 {
			large++
		}
		for _, n := range nodes {
			var some []bool
			for range a.Clocks {
				some = append(some, m.chance(2))
			}
			dropped++
			if got := active.Drop(n.Zone, some); !same(got, refDrop(n.Zone, some)) {
				t.Errorf("Drop(%v, %v) = %v", n.Zone, some, got)
			}
		}
	}
	if dropped < 5000 || large < 200 {
		t.Errorf("%d zones, %d graphs", dropped, large)
	}
}

// P3: equal arguments have equal results, arguments are not changed, and results share nothing.
func TestIndependence(t *testing.T) {
	m := maker{rand.New(rand.NewSource(2))}
	for range 500 {
		a := m.automaton()
		z := dbm.Up(dbm.Zero(a.Clocks))
		all := make([]bool, a.Clocks)
		for i := range all {
			all[i] = true
		}
		before := fmt.Sprint(a, z)
		results := func() (api.Zone, [][]bool, []api.Node) {
			nodes, _ := active.Explore(a)
			return active.Drop(z, all), active.Active(a), nodes
		}
		drop, lists, nodes := results()
		kept := fmt.Sprint(drop, lists, nodes)
		clear(drop.Bound)
		drop.Bound[0] = 7
		for _, l := range lists {
			clear(l)
		}
		for i := range nodes {
			nodes[i].Zone.Bound[0] = i + 1
		}
		for i := range nodes {
			if nodes[i].Zone.Bound[0] != i+1 {
				t.Fatal("two nodes share memory")
			}
		}
		drop, lists, nodes = results()
		if fmt.Sprint(drop, lists, nodes) != kept || fmt.Sprint(a, z) != before {
			t.Fatalf("%s: %s, and then %v, %v, %v", before, kept, drop, lists, nodes)
		}
	}
}

// P1: no arguments make a function panic.
func TestExtremes(t *testing.T) {
	for _, x := range []int{-1 << 63, -1, 0, 1, 12, 13, api.Infinite, 1<<63 - 1} {
		for _, y := range []int{-1 << 63, -1, 0, 1, 2, 100000001, 1<<63 - 1} {
			for _, a := range []api.Automaton{
				{Clocks: x, Start: y, Locs: []api.Loc{{}}},
				{Clocks: 1, Locs: []api.Loc{{Upper: []int{y}}}, Edges: []api.Edge{{From: x, To: x}, {Guards: []api.Guard{{Clock: 0, Least: y}}}}},
				{Clocks: 1, Locs: []api.Loc{{Upper: []int{api.Infinite}}}, Edges: []api.Edge{{Guards: []api.Guard{{Clock: x, Least: y}}, Resets: []int{x}}}},
			} {
				active.Explore(a)
				active.Active(a)
			}
			active.Drop(api.Zone{Size: x, Bound: []int{y}}, []bool{false})
			active.Drop(api.Zone{Size: 1, Bound: []int{y, x, x, y}}, []bool{false})
		}
	}
}
