package automata_test

import (
	"fmt"
	"math/rand"
	"reflect"
	"slices"
	"testing"

	"domicile/api"
	"domicile/automata"
)

// example returns the automaton of the chapter's examples.
func example() api.Automaton {
	return api.Automaton{Clocks: 1, Locs: []api.Loc{{Upper: []int{5}}, {Upper: []int{api.Infinite}}}, Edges: []api.Edge{
		{From: 0, To: 1, Guards: []api.Guard{{Clock: 0, Least: 3}}, Resets: []int{0}},
		{From: 1, To: 0},
	}}
}

// at returns a configuration.
func at(loc int, clocks ...int) api.Config { return api.Config{Loc: loc, Clocks: clocks} }

// equal reports whether two configurations are equal.
func equal(a, b api.Config) bool { return a.Loc == b.Loc && slices.Equal(a.Clocks, b.Clocks) }

// allEqual reports whether two lists of configurations are equal.
func allEqual(a, b []api.Config) bool { return slices.EqualFunc(a, b, equal) }

// P12.1, L1: which automata are well-formed; the others have no results.
func TestValid(t *testing.T) {
	many := func(n int) []int { return slices.Repeat([]int{0}, n) }
	for i, test := range []struct {
		change func(a *api.Automaton)
		want   bool
	}{
		{func(a *api.Automaton) {}, true},
		{func(a *api.Automaton) { a.Clocks = 2 }, false},
		{func(a *api.Automaton) { a.Clocks = 0 }, false},
		{func(a *api.Automaton) { a.Clocks = -1 }, false},
		{func(a *api.Automaton) { a.Start = 1 }, true},
		{func(a *api.Automaton) { a.Start = 2 }, false},
		{func(a *api.Automaton) { a.Start = -1 }, false},
		{func(a *api.Automaton) { a.Locs = nil }, false},
		{func(a *api.Automaton) { a.Locs[1].Upper = nil }, false},
		{func(a *api.Automaton) { a.Locs[1].Upper = many(2) }, false},
		{func(a *api.Automaton) { a.Locs[1].Upper[0] = 0 }, true},
		{func(a *api.Automaton) { a.Locs[1].Upper[0] = -1 }, false},
		{func(a *api.Automaton) { a.Locs[1].Upper[0] = 1000000000 }, true},
		{func(a *api.Automaton) { a.Locs[1].Upper[0] = 1000000001 }, false},
		{func(a *api.Automaton) { a.Locs[1].Upper[0] = api.Infinite - 1 }, false},
		{func(a *api.Automaton) { a.Locs[1].Upper[0] = api.Infinite + 1 }, false},
		{func(a *api.Automaton) { a.Locs = slices.Repeat(a.Locs, 200) }, true},
		{func(a *api.Automaton) { a.Locs = append(slices.Repeat(a.Locs, 200), a.Locs[0]) }, false},
		{func(a *api.Automaton) { a.Edges = nil }, true},
		{func(a *api.Automaton) { a.Edges = slices.Repeat(a.Edges, 4000) }, true},
		{func(a *api.Automaton) { a.Edges = append(slices.Repeat(a.Edges, 4000), a.Edges[0]) }, false},
		{func(a *api.Automaton) { a.Edges[1].From = 2 }, false},
		{func(a *api.Automaton) { a.Edges[1].From = -1 }, false},
		{func(a *api.Automaton) { a.Edges[1].To = 2 }, false},
		{func(a *api.Automaton) { a.Edges[1].To = -1 }, false},
		{func(a *api.Automaton) { a.Edges[1].Label = -1 << 63 }, true},
		{func(a *api.Automaton) { a.Edges[0].Guards[0].Clock = 1 }, false},
		{func(a *api.Automaton) { a.Edges[0].Guards[0].Clock = -1 }, false},
		{func(a *api.Automaton) { a.Edges[0].Guards[0].Least = -1 }, false},
		{func(a *api.Automaton) { a.Edges[0].Guards[0].Least = 1000000000 }, true},
		{func(a *api.Automaton) { a.Edges[0].Guards[0].Least = 1000000001 }, false},
		{func(a *api.Automaton) { a.Edges[0].Guards[0].Least = api.Infinite }, false},
		{func(a *api.Automaton) { a.Edges[0].Guards = slices.Repeat(a.Edges[0].Guards, 24) }, true},
		{func(a *api.Automaton) { a.Edges[0].Guards = slices.Repeat(a.Edges[0].Guards, 25) }, false},
		{func(a *api.Automaton) { a.Edges[0].Resets = many(2) }, false},
		{func(a *api.Automaton) { a.Edges[0].Resets = []int{1} }, false},
		{func(a *api.Automaton) { a.Edges[0].Resets = []int{-1} }, false},
		{func(a *api.Automaton) {
			*a = api.Automaton{Clocks: 12, Locs: []api.Loc{{Upper: many(12)}}, Edges: []api.Edge{{Resets: []int{0, 3, 11}}}}
		}, true},
		{func(a *api.Automaton) {
			*a = api.Automaton{Clocks: 12, Locs: []api.Loc{{Upper: many(12)}}, Edges: []api.Edge{{Resets: []int{3, 0, 11}}}}
		}, false},
		{func(a *api.Automaton) { *a = api.Automaton{Clocks: 13, Locs: []api.Loc{{Upper: many(13)}}} }, false},
		{func(a *api.Automaton) { *a = api.Automaton{Locs: []api.Loc{{}}} }, true},
		{func(a *api.Automaton) { *a = api.Automaton{} }, false},
	} {
		a := example()
		test.change(&a)
		if got := automata.Valid(a); got != test.want || refValid(a) != test.want {
			t.Errorf("%d: Valid(%+v) = %v", i, a, got)
		}
		if test.want {
			continue
		}
		_, errWait := automata.Wait(a, at(0, 0), 0)
		_, errTake := automata.Take(a, at(0, 3), 0)
		_, errRun := automata.Run(a, make([]api.Move, 401))
		if errWait != api.ErrArg || errTake != api.ErrArg || errRun != api.ErrArg {
			t.Errorf("%d: the errors are %v, %v, %v", i, errWait, errTake, errRun)
		}
		if !equal(automata.Start(a), api.Config{}) || len(automata.Enabled(a, at(0, 3)))+len(automata.Greatest(a)) > 0 {
			t.Errorf("%d: an automaton that is not well-formed has results", i)
		}
	}
}

// P12.1: the examples of the chapter.
func TestExamples(t *testing.T) {
	for i, test := range []struct {
		l    []api.Move
		want []api.Config
		err  api.Errno
	}{
		{[]api.Move{{Wait: 3, Edge: 0}, {Wait: 4, Edge: 1}}, []api.Config{at(1, 0), at(0, 4)}, api.OK},
		{[]api.Move{{Wait: 2, Edge: 0}}, nil, api.ErrState},
		{[]api.Move{{Wait: 6, Edge: -1}}, nil, api.ErrState},
		{[]api.Move{{Wait: 3, Edge: 0}, {Wait: 6, Edge: 1}}, nil, api.ErrState},
		{nil, nil, api.OK},
		{[]api.Move{{Wait: 5, Edge: -1}, {Edge: 0}}, []api.Config{at(0, 5), at(1, 0)}, api.OK},
		{[]api.Move{{Wait: 3, Edge: -2}}, nil, api.ErrArg},
		{[]api.Move{{Wait: 3, Edge: 2}}, nil, api.ErrArg},
		{[]api.Move{{Wait: -1, Edge: 2}}, nil, api.ErrArg},
		{[]api.Move{{Wait: 6, Edge: 2}}, nil, api.ErrState},
		{[]api.Move{{Wait: 3, Edge: 1}}, nil, api.ErrState},
		{slices.Repeat([]api.Move{{Edge: -1}}, 400), slices.Repeat([]api.Config{at(0, 0)}, 400), api.OK},
		{slices.Repeat([]api.Move{{Edge: -1}}, 401), nil, api.ErrLimit},
		{slices.Repeat([]api.Move{{Edge: 7}}, 401), nil, api.ErrLimit},
	} {
		if got, err := automata.Run(example(), test.l); !allEqual(got, test.want) || err != test.err {
			t.Errorf("%d: %v, %v, want %v, %v", i, got, err, test.want, test.err)
		}
	}
	if got := automata.Greatest(example()); !slices.Equal(got, []int{5}) {
		t.Errorf("Greatest is %v", got)
	}
	if got := automata.Start(example()); !equal(got, at(0, 0)) {
		t.Errorf("Start is %v", got)
	}
}

// P12.1, L3: the errors of Wait, and their order.
func TestWait(t *testing.T) {
	for i, test := range []struct {
		c    api.Config
		n    int
		want api.Config
		err  api.Errno
	}{
		{at(0, 2), 3, at(0, 5), api.OK},
		{at(0, 2), 4, api.Config{}, api.ErrState},
		{at(0, 6), 0, api.Config{}, api.ErrArg},
		{at(0, 5), 0, at(0, 5), api.OK},
		{at(1, 6), 0, at(1, 6), api.OK},
		{at(1, 6), 1000000000, at(1, 1000000006), api.OK},
		{at(1, 6), 1000000001, api.Config{}, api.ErrArg},
		{at(0, 5), 1000000001, api.Config{}, api.ErrArg},
		{at(1, 6), -1, api.Config{}, api.ErrArg},
		{at(1, api.Infinite-2), 1, at(1, api.Infinite-1), api.OK},
		{at(1, api.Infinite-2), 2, api.Config{}, api.ErrLimit},
		{at(1, api.Infinite-2), 1000000000, api.Config{}, api.ErrLimit},
		{at(1, api.Infinite), 0, api.Config{}, api.ErrArg},
		{at(1, -1), 1, api.Config{}, api.ErrArg},
		{at(2, 0), 1, api.Config{}, api.ErrArg},
		{at(-1, 0), 1, api.Config{}, api.ErrArg},
		{at(1), 1, api.Config{}, api.ErrArg},
		{at(1, 0, 0), 1, api.Config{}, api.ErrArg},
	} {
		if got, err := automata.Wait(example(), test.c, test.n); !equal(got, test.want) || err != test.err {
			t.Errorf("%d: %v, %v, want %v, %v", i, got, err, test.want, test.err)
		}
	}
	// One clock would break the invariant, another one would be too great: the first error counts.
	a := api.Automaton{Clocks: 2, Locs: []api.Loc{{Upper: []int{api.Infinite, 5}}}}
	if _, err := automata.Wait(a, at(0, api.Infinite-1, 5), 1); err != api.ErrState {
		t.Errorf("both errors: %v", err)
	}
}

// P12.1, L4: the errors of Take; only well-formed configurations have enabled edges.
func TestTake(t *testing.T) {
	for i, test := range []struct {
		c       api.Config
		edge    int
		want    api.Config
		err     api.Errno
		enabled []int
	}{
		{at(0, 3), 0, at(1, 0), api.OK, []int{0}},
		{at(0, 2), 0, api.Config{}, api.ErrState, nil},
		{at(0, 5), 0, at(1, 0), api.OK, []int{0}},
		{at(0, 6), 0, api.Config{}, api.ErrArg, nil},
		{at(0, 3), 1, api.Config{}, api.ErrState, []int{0}},
		{at(0, 3), 2, api.Config{}, api.ErrArg, []int{0}},
		{at(0, 3), -1, api.Config{}, api.ErrArg, []int{0}},
		{at(1, 5), 1, at(0, 5), api.OK, []int{1}},
		{at(1, 6), 1, api.Config{}, api.ErrState, nil},
		{at(2, 3), 0, api.Config{}, api.ErrArg, nil},
		{at(0, 3, 3), 0, api.Config{}, api.ErrArg, nil},
		{at(1, -1), 1, api.Config{}, api.ErrArg, nil},
		{at(1, api.Infinite), 1, api.Config{}, api.ErrArg, nil},
	} {
		if got, err := automata.Take(example(), test.c, test.edge); !equal(got, test.want) || err != test.err {
			t.Errorf("%d: %v, %v, want %v, %v", i, got, err, test.want, test.err)
		}
		if got := automata.Enabled(example(), test.c); !slices.Equal(got, test.enabled) {
			t.Errorf("%d: the enabled edges are %v", i, got)
		}
	}
}

// P12.1: random automata, configurations and runs have the results of the reference.
func TestReference(t *testing.T) {
	m := maker{rand.New(rand.NewSource(1))}
	errors := map[api.Errno]int{}
	for range 30000 {
		a := m.automaton()
		if m.chance(30) {
			a.Clocks++
		}
		c, n, edge := m.config(a), m.seconds(), m.Intn(len(a.Edges)+2)-1
		got, err := automata.Wait(a, c, n)
		want, errWant := refWait(a, c, n)
		if !equal(got, want) || err != errWant {
			t.Errorf("Wait(%+v, %v, %v) = %v, %v, want %v, %v", a, c, n, got, err, want, errWant)
		}
		errors[err]++
		got, err = automata.Take(a, c, edge)
		want, errWant = refTake(a, c, edge)
		if !equal(got, want) || err != errWant {
			t.Errorf("Take(%+v, %v, %v) = %v, %v, want %v, %v", a, c, edge, got, err, want, errWant)
		}
		errors[err]++
		if got, want := automata.Greatest(a), refGreatest(a); !slices.Equal(got, want) {
			t.Errorf("Greatest(%+v) = %v, want %v", a, got, want)
		}
		l := m.walk(a, 5)
		if m.chance(2) {
			l = append(l, api.Move{Wait: m.seconds(), Edge: m.Intn(len(a.Edges)+3) - 2})
		}
		runs, err := automata.Run(a, l)
		refRuns, errWant := refRun(a, l)
		if !allEqual(runs, refRuns) || err != errWant {
			t.Errorf("Run(%+v, %v) = %v, %v, want %v, %v", a, l, runs, err, refRuns, errWant)
		}
		errors[err]++
	}
	for _, err := range []api.Errno{api.OK, api.ErrArg, api.ErrState, api.ErrLimit} {
		if errors[err] < 50 {
			t.Errorf("the error %v occurred %d times", err, errors[err])
		}
	}
}

// P3: equal arguments have equal results, arguments are not changed, and results share nothing with them or with each other.
func TestIndependence(t *testing.T) {
	m := maker{rand.New(rand.NewSource(2))}
	for range 3000 {
		a := m.automaton()
		c := m.config(a)
		l := append(m.walk(a, 4), api.Move{Edge: -1}, api.Move{Edge: -1})
		before := fmt.Sprint(a, c, l)
		all := func() []any {
			waited, _ := automata.Wait(a, c, 0)
			run, _ := automata.Run(a, l)
			return []any{waited, run, automata.Start(a), automata.Enabled(a, c), automata.Greatest(a)}
		}
		first := all()
		kept := fmt.Sprint(first)
		clear(first[0].(api.Config).Clocks)
		clear(first[2].(api.Config).Clocks)
		clear(first[4].([]int))
		for _, c := range first[1].([]api.Config) {
			for i := range c.Clocks {
				c.Clocks[i]++
			}
		}
		if again := all(); fmt.Sprint(again) != kept || fmt.Sprint(a, c, l) != before {
			t.Fatalf("%s: %s, and then %v", before, kept, again)
		}
		run, again := all()[1].([]api.Config), all()[1].([]api.Config)
		if len(run) > 0 && len(run[0].Clocks) > 0 {
			run[0].Clocks[0] = -7
			if !reflect.DeepEqual(run[1:], again[1:]) {
				t.Fatalf("the configurations of %v share memory", run)
			}
		}
	}
}

// P1: no arguments make a function panic.
func TestExtremes(t *testing.T) {
	numbers := []int{-1 << 63, -1, 0, 1, 12, 13, api.Infinite, 1<<63 - 1}
	for _, x := range numbers {
		for _, y := range numbers {
			list := []api.Automaton{
				{Clocks: x, Start: y},
				{Clocks: x, Locs: []api.Loc{{}}},
				{Clocks: 1, Start: x, Locs: []api.Loc{{Upper: []int{y}}}},
				{Clocks: 1, Locs: []api.Loc{{Upper: []int{api.Infinite}}}, Edges: []api.Edge{{From: x, To: y}}},
				{Clocks: 1, Locs: []api.Loc{{Upper: []int{api.Infinite}}}, Edges: []api.Edge{{Guards: []api.Guard{{Clock: x, Least: y}}, Resets: []int{y}}}},
			}
			for _, a := range list {
				automata.Valid(a)
				automata.Start(a)
				automata.Greatest(a)
				automata.Run(a, []api.Move{{Wait: x, Edge: y}})
				for _, c := range []api.Config{{}, at(x, y), at(0, x), at(0, y), at(y)} {
					automata.Wait(a, c, x)
					automata.Take(a, c, y)
					automata.Enabled(a, c)
				}
			}
		}
	}
}
