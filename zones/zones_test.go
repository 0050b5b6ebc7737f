package zones_test

import (
	"fmt"
	"math/rand"
	"slices"
	"testing"

	"domicile/api"
	"domicile/automata"
	"domicile/dbm"
	"domicile/zones"
)

// example returns the automaton of the chapter's examples, with another guard.
func example(least int, more ...api.Edge) api.Automaton {
	edge := api.Edge{From: 0, To: 1, Guards: []api.Guard{{Clock: 0, Least: least}}}
	return api.Automaton{Clocks: 1, Locs: []api.Loc{{Upper: []int{5}}, {Upper: []int{api.Infinite}}}, Edges: append([]api.Edge{edge}, more...)}
}

// counter returns an automaton with n locations in a row.
func counter(n int) api.Automaton {
	var a api.Automaton
	for i := range n {
		a.Locs = append(a.Locs, api.Loc{})
		a.Edges = append(a.Edges, api.Edge{From: i, To: min(i+1, n-1)})
	}
	return a
}

// same reports whether two values are equal, where nil slices are empty ones.
func same(a, b any) bool { return fmt.Sprintf("%+v", a) == fmt.Sprintf("%+v", b) }

// interval returns the zone of one clock from least on, to most or without end.
func interval(least, most int) api.Zone {
	return api.Zone{Size: 1, Bound: []int{0, -least, most, 0}}
}

// P14.1: the examples of the chapter.
func TestExamples(t *testing.T) {
	first := api.Node{Loc: 0, Zone: interval(0, 5), Parent: -1, Edge: -1}
	second := api.Node{Loc: 1, Zone: interval(3, api.Infinite), Parent: 0, Edge: 0, Depth: 1}
	third := api.Node{Loc: 1, Zone: interval(0, api.Infinite), Parent: 1, Edge: 1, Depth: 2}
	for i, test := range []struct {
		a      api.Automaton
		nodes  []api.Node
		usable []bool
	}{
		{example(3), []api.Node{first, second}, []bool{true}},
		{example(6), []api.Node{{Zone: interval(0, 5), Parent: -1, Edge: -1}}, []bool{false}},
		{example(3, api.Edge{From: 1, To: 1, Resets: []int{0}}), []api.Node{first, second, third}, []bool{true, true}},
		{api.Automaton{Locs: []api.Loc{{}}}, []api.Node{{Zone: api.Zone{Bound: []int{0}}, Parent: -1, Edge: -1}}, nil},
	} {
		if got, err := zones.Explore(test.a); err != api.OK || !same(got, test.nodes) {
			t.Errorf("%d: the graph is %+v, %v", i, got, err)
		}
		if got, err := zones.Usable(test.a); err != api.OK || !slices.Equal(got, test.usable) {
			t.Errorf("%d: the usable edges are %v, %v", i, got, err)
		}
	}
	if path, err := zones.Reach(example(3), 1); err != api.OK || !slices.Equal(path, []int{0}) {
		t.Errorf("the path is %v, %v", path, err)
	}
	if path, err := zones.Reach(example(3), 0); err != api.OK || len(path) > 0 {
		t.Errorf("the path is %v, %v", path, err)
	}
	if path, err := zones.Reach(example(6), 1); err != api.ErrNone || len(path) > 0 {
		t.Errorf("the path is %v, %v", path, err)
	}
}

// wantErrors checks the errors of all functions about an automaton.
func wantErrors(t *testing.T, a api.Automaton, loc int, want, wantReach api.Errno) {
	t.Helper()
	nodes, err := zones.Explore(a)
	usable, errUsable := zones.Usable(a)
	path, errReach := zones.Reach(a, loc)
	if err != want || errUsable != want || errReach != wantReach || len(nodes)+len(usable)+len(path) > 0 {
		t.Errorf("the errors are %v, %v, %v, want %v and %v", err, errUsable, errReach, want, wantReach)
	}
}

// P14.1: the errors, and their order.
func TestErrors(t *testing.T) {
	wantErrors(t, api.Automaton{}, 0, api.ErrArg, api.ErrArg)
	bad := example(100000001)
	wantErrors(t, bad, 1, api.ErrLimit, api.ErrLimit)
	wantErrors(t, bad, 2, api.ErrLimit, api.ErrArg)
	wantErrors(t, bad, -1, api.ErrLimit, api.ErrArg)
	bad.Start = 2
	wantErrors(t, bad, 1, api.ErrArg, api.ErrArg)
	far := example(3)
	far.Locs[0].Upper[0] = 100000001
	wantErrors(t, far, 1, api.ErrLimit, api.ErrLimit)
	far.Locs[0].Upper[0] = 100000000
	if nodes, err := zones.Explore(far); err != api.OK || len(nodes) != 2 {
		t.Errorf("a near automaton has %v, %v", nodes, err)
	}
	far = example(100000000)
	far.Locs[0].Upper[0] = api.Infinite
	if path, err := zones.Reach(far, 1); err != api.OK || len(path) != 1 {
		t.Errorf("a near automaton has %v, %v", path, err)
	}
	for _, loc := range []int{-1, 2, 1 << 62} {
		if _, err := zones.Reach(example(3), loc); err != api.ErrArg {
			t.Errorf("the location %v: %v", loc, err)
		}
	}
}

// steps returns an automaton whose graph has n + 2 nodes: one clock is reset each second, while the other one goes on.
func steps(n int) api.Automaton {
	return api.Automaton{
		Clocks: 2, Start: 1,
		Locs: []api.Loc{{Upper: []int{1, n}}, {Upper: []int{0, api.Infinite}}, {Upper: []int{api.Infinite, api.Infinite}}},
		Edges: []api.Edge{
			{From: 0, To: 0, Guards: []api.Guard{{Clock: 0, Least: 1}}, Resets: []int{0}},
			{From: 1, To: 0},
			{From: 1, To: 2},
		},
	}
}

// P14.1: the limit of 4000 nodes; Reach has the error of Explore also for a location that is found before.
func TestMaxNodes(t *testing.T) {
	for n := 3990; n < 4010; n++ {
		a := steps(n)
		nodes, err := zones.Explore(a)
		_, errReach := zones.Reach(a, 2)
		_, errUsable := zones.Usable(a)
		// The nodes are the first one, that of the location 2, and one for each second in which the location 0 can be entered.
		if count := n + 3; count > 4000 {
			if err != api.ErrLimit || errReach != api.ErrLimit || errUsable != api.ErrLimit || len(nodes) > 0 {
				t.Errorf("%d nodes: %d, %v, %v, %v", count, len(nodes), err, errReach, errUsable)
			}
		} else if err != api.OK || errReach != api.OK || errUsable != api.OK || len(nodes) != count {
			t.Errorf("%d nodes: %d, %v, %v, %v", count, len(nodes), err, errReach, errUsable)
		}
	}
	if nodes, err := zones.Explore(counter(400)); err != api.OK || len(nodes) != 400 || len(zones.Path(nodes, 399)) != 399 {
		t.Errorf("%d nodes, %v", len(nodes), err)
	}
}

// P14.1, N2: the paths of lists of nodes, also of such that are no graphs.
func TestPath(t *testing.T) {
	parents := func(l ...int) []api.Node {
		var nodes []api.Node
		for i, p := range l {
			nodes = append(nodes, api.Node{Parent: p, Edge: 10 + i})
		}
		return nodes
	}
	for i, test := range []struct {
		l    []api.Node
		at   int
		want []int
	}{
		{parents(-1), 0, nil},
		{parents(-1, 0, 1, 0), 2, []int{11, 12}},
		{parents(-1, 0, 1, 0), 3, []int{13}},
		{parents(-1, 0, 1, 0), 4, nil},
		{parents(-1, 0, 1, 0), -1, nil},
		{parents(-1, -1, 1), 2, []int{12}},
		{parents(-2, 0, 1), 2, nil},
		{parents(-1, 1), 1, nil},
		{parents(-1, 2, 1), 2, nil},
		{parents(-1, 3, 0, 0), 2, []int{12}},
		{parents(-1, 0, 1<<62), 2, nil},
		{parents(0, 0), 1, nil},
		{nil, 0, nil},
	} {
		if got := zones.Path(test.l, test.at); !slices.Equal(got, test.want) {
			t.Errorf("%d: Path(%+v, %v) = %v", i, test.l, test.at, got)
		}
	}
}

// P14.1: random automata have the results of the reference.
func TestReference(t *testing.T) {
	m := maker{rand.New(rand.NewSource(1))}
	large := 0
	for range 5000 {
		a := m.automaton()
		want := refExplore(a)
		got, err := zones.Explore(a)
		if err != api.OK || !same(got, want) {
			t.Fatalf("Explore(%+v) = %+v, %v, want %+v", a, got, err, want)
		}
		if len(got) > 5 {
			large++
		}
		usable, err := zones.Usable(a)
		for i, e := range a.Edges {
			expected := slices.ContainsFunc(want, func(n api.Node) bool { return n.Loc == e.From && dbm.Valid(refNext(a, n.Zone, e, true)) })
			if err != api.OK || len(usable) != len(a.Edges) || usable[i] != expected {
				t.Errorf("Usable(%+v) = %v, %v", a, usable, err)
			}
		}
		for loc := range a.Locs {
			path, err := zones.Reach(a, loc)
			at := slices.IndexFunc(want, func(n api.Node) bool { return n.Loc == loc })
			var edges []int
			for i := at; i > 0; i = want[i].Parent {
				edges = append([]int{want[i].Edge}, edges...)
			}
			if (err == api.OK) != (at >= 0) || at < 0 && err != api.ErrNone || !slices.Equal(path, edges) {
				t.Errorf("Reach(%+v, %v) = %v, %v, want %v", a, loc, path, err, edges)
			}
		}
	}
	if large < 200 {
		t.Errorf("%d large graphs", large)
	}
}

// P3: equal arguments have equal results, arguments are not changed, and results share nothing.
func TestIndependence(t *testing.T) {
	m := maker{rand.New(rand.NewSource(2))}
	for range 500 {
		a := m.automaton()
		before := fmt.Sprint(a)
		nodes, _ := zones.Explore(a)
		usable, _ := zones.Usable(a)
		kept := fmt.Sprint(nodes, usable)
		clear(usable)
		for i := range nodes {
			for k := range nodes[i].Zone.Bound {
				nodes[i].Zone.Bound[k] = 1000*i + k
			}
		}
		for i := range nodes {
			for k, b := range nodes[i].Zone.Bound {
				if b != 1000*i+k {
					t.Fatal("two nodes share memory")
				}
			}
		}
		nodes, _ = zones.Explore(a)
		usable, _ = zones.Usable(a)
		if fmt.Sprint(nodes, usable) != kept || fmt.Sprint(a) != before {
			t.Fatalf("%s: %s, and then %v, %v", before, kept, nodes, usable)
		}
	}
}

// P1: no arguments make a function panic.
func TestExtremes(t *testing.T) {
	for _, x := range []int{-1 << 63, -1, 0, 1, 12, 13, api.Infinite, 1<<63 - 1} {
		for _, y := range []int{-1 << 63, -1, 0, 1, 2, 100000001, 1<<63 - 1} {
			for _, a := range []api.Automaton{
				{Clocks: x, Start: y, Locs: []api.Loc{{}}},
				{Clocks: 1, Locs: []api.Loc{{Upper: []int{y}}}, Edges: []api.Edge{{From: x, To: x}, {Guards: []api.Guard{{Clock: 0, Least: y}}}}},
				{Clocks: 1, Locs: []api.Loc{{Upper: []int{api.Infinite}}}, Edges: []api.Edge{{Guards: []api.Guard{{Clock: x, Least: y}}, Resets: []int{x}}}},
			} {
				zones.Explore(a)
				zones.Usable(a)
				zones.Reach(a, y)
			}
			zones.Path([]api.Node{{Parent: x}, {Parent: y}}, y)
			zones.Path([]api.Node{{Parent: -1}, {Parent: y}}, 1)
		}
	}
	if automata.Valid(api.Automaton{}) {
		t.Error("an automaton without locations")
	}
}
