package replay_test

import (
	"fmt"
	"math/rand"
	"slices"
	"testing"

	"domicile/api"
	"domicile/replay"
)

// loop returns an automaton with one location and one edge.
func loop(upper int, e api.Edge) api.Automaton {
	return api.Automaton{Clocks: 1, Locs: []api.Loc{{Upper: []int{upper}}}, Edges: []api.Edge{e}}
}

// wantTimes checks the times of a path; nil waits mean that there are none.
func wantTimes(t *testing.T, a api.Automaton, path, waits []int, ok bool) {
	t.Helper()
	if got, found := replay.Times(a, path); found != ok || !slices.Equal(got, waits) {
		t.Errorf("Times(%+v, %v) = %v, %v, want %v, %v", a, path, got, found, waits, ok)
	}
}

// P17.1: the examples of the chapter.
func TestExamples(t *testing.T) {
	guarded := api.Edge{Guards: []api.Guard{{Clock: 0, Least: 3}}}
	wantTimes(t, loop(api.Infinite, guarded), []int{0}, []int{3}, true)
	guarded.Resets = []int{0}
	wantTimes(t, loop(api.Infinite, guarded), []int{0, 0}, []int{3, 3}, true)
	free := api.Infinite
	two := api.Automaton{Clocks: 2, Locs: []api.Loc{{Upper: []int{free, free}}, {Upper: []int{free, 2}}, {Upper: []int{free, free}}}, Edges: []api.Edge{
		{From: 0, To: 1, Resets: []int{1}},
		{From: 1, To: 2, Guards: []api.Guard{{Clock: 0, Least: 5}}},
	}}
	wantTimes(t, two, []int{0, 1}, []int{3, 2}, true)
	wantTimes(t, two, []int{0}, []int{0}, true)
	two.Locs[0].Upper[0] = 2
	wantTimes(t, two, []int{0, 1}, nil, false)
	wantTimes(t, two, []int{0}, []int{0}, true)
}

// P17.1, Q1: what is a path, and the limits.
func TestPaths(t *testing.T) {
	free := api.Infinite
	a := api.Automaton{Clocks: 1, Start: 1, Locs: []api.Loc{{Upper: []int{free}}, {Upper: []int{free}}}, Edges: []api.Edge{
		{From: 1, To: 0, Guards: []api.Guard{{Least: 1000000000}}, Resets: []int{0}},
		{From: 0, To: 1, Guards: []api.Guard{{Least: 7}, {Least: 5}}, Resets: []int{0}},
	}}
	wantTimes(t, a, nil, nil, true)
	wantTimes(t, a, []int{0}, []int{1000000000}, true)
	wantTimes(t, a, []int{0, 1, 0}, []int{1000000000, 7, 1000000000}, true)
	for _, path := range [][]int{{1}, {0, 0}, {0, 1, 1}, {2}, {-1}, {0, 2}, {0, -1}} {
		wantTimes(t, a, path, nil, false)
	}
	wantTimes(t, a, slices.Repeat([]int{0, 1}, 200), slices.Repeat([]int{1000000000, 7}, 200), true)
	wantTimes(t, a, append(slices.Repeat([]int{0, 1}, 200), 0), nil, false)
	a.Start = 2
	wantTimes(t, a, nil, nil, false)
	// The invariant after the last edge counts as well, and that before the first one.
	last := api.Automaton{Clocks: 1, Locs: []api.Loc{{Upper: []int{free}}, {Upper: []int{4}}}, Edges: []api.Edge{{From: 0, To: 1, Guards: []api.Guard{{Least: 4}}}}}
	wantTimes(t, last, []int{0}, []int{4}, true)
	last.Edges[0].Guards[0].Least = 5
	wantTimes(t, last, []int{0}, nil, false)
	last.Edges[0].Resets = []int{0}
	wantTimes(t, last, []int{0}, []int{5}, true)
	last.Locs[0].Upper[0] = 4
	wantTimes(t, last, []int{0}, nil, false)
}

// P17.1, Q2: the errors of Inputs, and their order.
func TestInputs(t *testing.T) {
	set := api.Input{Kind: api.InSet, Var: 3, Value: 2}
	g := api.Image{Labels: []api.Label{{Input: set, Law: -1}, {Input: set, Law: 0}, {Input: api.Input{Kind: api.InExpire, Timer: 1}, Law: -1}}}
	wait := func(n int) api.Input { return api.Input{Kind: api.InWait, Seconds: n} }
	days := slices.Repeat([]api.Input{wait(86400)}, 400)
	for i, test := range []struct {
		path, waits []int
		want        []api.Input
		err         api.Errno
	}{
		{nil, nil, nil, api.OK},
		{[]int{0}, []int{0}, []api.Input{set}, api.OK},
		{[]int{0, 2}, []int{5, 0}, []api.Input{wait(5), set, {Kind: api.InExpire, Timer: 1}}, api.OK},
		{[]int{1}, []int{7}, []api.Input{wait(7)}, api.OK},
		{[]int{1, 0}, []int{7, 1}, []api.Input{wait(7), wait(1), set}, api.OK},
		{[]int{0}, []int{86400}, []api.Input{wait(86400), set}, api.OK},
		{[]int{0}, []int{86401}, []api.Input{wait(86400), wait(1), set}, api.OK},
		{[]int{0}, []int{172800}, []api.Input{wait(86400), wait(86400), set}, api.OK},
		{[]int{1}, []int{400 * 86400}, days, api.OK},
		{[]int{0}, []int{400 * 86400}, nil, api.ErrLimit},
		{[]int{1}, []int{400*86400 + 1}, nil, api.ErrLimit},
		{[]int{1}, []int{1000000000}, nil, api.ErrLimit},
		{[]int{1}, []int{1000000001}, nil, api.ErrArg},
		{[]int{1, 1}, []int{1000000000, -1}, nil, api.ErrArg},
		{[]int{1, 3}, []int{1000000000, 0}, nil, api.ErrArg},
		{[]int{-1}, []int{0}, nil, api.ErrArg},
		{[]int{0}, nil, nil, api.ErrArg},
		{nil, []int{0}, nil, api.ErrArg},
		{slices.Repeat([]int{0}, 400), make([]int, 400), slices.Repeat([]api.Input{set}, 400), api.OK},
		{slices.Repeat([]int{0}, 401), make([]int, 401), nil, api.ErrLimit},
		{slices.Repeat([]int{1}, 1000), make([]int, 1000), nil, api.OK},
	} {
		if got, err := replay.Inputs(g, test.path, test.waits); !slices.Equal(got, test.want) || err != test.err {
			t.Errorf("%d: %v, %v, want %v, %v", i, got, err, test.want, test.err)
		}
	}
}

// P17.1, Q3, Q4: Length and Clean.
func TestClean(t *testing.T) {
	wait := func(n int) api.Input { return api.Input{Kind: api.InWait, Seconds: n} }
	set := api.Input{Kind: api.InSet, Seconds: 9}
	odd := api.Input{Kind: api.InWait, Seconds: 86401, Var: 3}
	for i, test := range []struct {
		l, want []api.Input
		length  int
	}{
		{nil, nil, 0},
		{[]api.Input{wait(0), wait(-5)}, nil, 0},
		{[]api.Input{wait(3), set, wait(4)}, []api.Input{wait(3), set, wait(4)}, 1},
		{[]api.Input{wait(3), wait(0), wait(4), set, wait(-1), set}, []api.Input{wait(7), set, set}, 2},
		{[]api.Input{wait(86400), wait(1), set}, []api.Input{wait(86400), wait(1), set}, 1},
		{[]api.Input{wait(1), wait(86400), set}, []api.Input{wait(86400), wait(1), set}, 1},
		{[]api.Input{wait(50000), wait(50000)}, []api.Input{wait(86400), wait(13600)}, 0},
		{[]api.Input{wait(1), odd, wait(2), wait(3)}, []api.Input{wait(1), odd, wait(5)}, 0},
		{[]api.Input{odd, odd}, []api.Input{odd, odd}, 0},
		{[]api.Input{{Kind: api.InWait, Seconds: 4, Var: 3, Value: 1, Timer: 2}}, []api.Input{wait(4)}, 0},
		{[]api.Input{{Kind: 7, Seconds: -1}, {}}, []api.Input{{Kind: 7, Seconds: -1}, {}}, 2},
	} {
		if got := replay.Clean(test.l); !slices.Equal(got, test.want) || replay.Length(test.l) != test.length {
			t.Errorf("%d: %v, want %v; the length is %v", i, got, test.want, replay.Length(test.l))
		}
	}
}

// P17.1: random paths, inputs and runs have the results of the references.
func TestReference(t *testing.T) {
	m := maker{rand.New(rand.NewSource(1))}
	timed, untimed := 0, 0
	for range 4000 {
		a := m.automaton()
		path := m.path(a, 1+m.Intn(4))
		if m.chance(20) {
			path = append(path, m.Intn(len(a.Edges)+3)-1)
		}
		waits, ok := replay.Times(a, path)
		if !refIsPath(a, path) {
			if ok || len(waits) > 0 {
				t.Errorf("Times(%+v, %v) = %v, %v", a, path, waits, ok)
			}
			continue
		}
		want, found := refTimes(a, path, 7)
		now := 0
		var times []int
		for _, n := range waits {
			now += n
			times = append(times, now)
		}
		if ok != found || !slices.Equal(times, want) {
			t.Errorf("Times(%+v, %v) = %v, %v, want the times %v, %v", a, path, waits, ok, want, found)
		}
		if ok {
			timed++
		} else {
			untimed++
		}
	}
	if min(timed, untimed) < 700 {
		t.Errorf("%d paths with times, %d without", timed, untimed)
	}
	for range 20000 {
		l := m.inputs(m.Intn(9))
		if got, want := replay.Clean(l), refClean(l); !slices.Equal(got, want) {
			t.Errorf("Clean(%v) = %v, want %v", l, got, want)
		}
		g := api.Image{}
		for _, in := range l {
			g.Labels = append(g.Labels, api.Label{Input: in, Law: m.Intn(3) - 1})
		}
		var path, waits []int
		for range m.Intn(6) {
			path = append(path, m.Intn(len(l)+1))
			waits = append(waits, m.Intn(200000)*m.Intn(2))
			if m.chance(40) {
				waits[0] = m.Intn(1100000000)
			}
		}
		got, err := replay.Inputs(g, path, waits)
		want, errWant := refInputs(g, path, waits)
		if !slices.Equal(got, want) || err != errWant {
			t.Errorf("Inputs(%v, %v, %v) = %v, %v, want %v, %v", g, path, waits, got, err, want, errWant)
		}
	}
}

// P17.1: long paths with large numbers have the times of the reference.
func TestLongPaths(t *testing.T) {
	m := maker{rand.New(rand.NewSource(3))}
	timed, pushed := 0, 0
	for range 3000 {
		a := m.automaton()
		factor := []int{1, 1000, 100000000}[m.Intn(3)]
		for i := range a.Locs {
			for k, upper := range a.Locs[i].Upper {
				if upper != api.Infinite {
					a.Locs[i].Upper[k] = (upper + m.Intn(2)) * factor
				}
			}
		}
		for i := range a.Edges {
			for k := range a.Edges[i].Guards {
				a.Edges[i].Guards[k].Least = min(1000000000, a.Edges[i].Guards[k].Least*factor*m.Intn(3)/2)
			}
		}
		path := m.path(a, 2+m.Intn(60))
		if m.chance(10) {
			path = m.path(a, 400)
		}
		want, found := refLong(a, path)
		var waits []int
		for i, time := range want {
			if i > 0 {
				time -= want[i-1]
			}
			waits = append(waits, time)
		}
		wantTimes(t, a, path, waits, found)
		if found && len(path) > 9 {
			timed++
			if slices.Max(waits) > 0 {
				pushed++
			}
		}
	}
	if timed < 300 || pushed < 100 {
		t.Errorf("%d long paths with times, %d with waits", timed, pushed)
	}
}

// P3: equal arguments have equal results, arguments are not changed, and results share nothing with them.
func TestIndependence(t *testing.T) {
	m := maker{rand.New(rand.NewSource(2))}
	for range 1000 {
		a := m.automaton()
		path, l := m.path(a, 5), m.inputs(6)
		before := fmt.Sprint(a, path, l)
		waits, ok := replay.Times(a, path)
		clean := replay.Clean(l)
		kept := fmt.Sprint(waits, ok, clean, replay.Length(l))
		clear(waits)
		clear(clean)
		waits, ok = replay.Times(a, path)
		if again := fmt.Sprint(waits, ok, replay.Clean(l), replay.Length(l)); again != kept || fmt.Sprint(a, path, l) != before {
			t.Fatalf("%s: %s, and then %s", before, kept, again)
		}
	}
}

// P1: no arguments make a function panic.
func TestExtremes(t *testing.T) {
	numbers := []int{-1 << 63, -1, 0, 1, 401, api.Infinite, 1<<63 - 1}
	for _, x := range numbers {
		for _, y := range numbers {
			a := loop(api.Infinite, api.Edge{From: x, To: y})
			replay.Times(a, []int{x, y})
			replay.Times(loop(y, api.Edge{Guards: []api.Guard{{Clock: x, Least: y}}, Resets: []int{x}}), []int{0, 0})
			replay.Times(api.Automaton{Clocks: x, Locs: make([]api.Loc, 2)}, []int{y})
			replay.Inputs(api.Image{Labels: make([]api.Label, 2)}, []int{x, 1}, []int{y, 1})
			replay.Clean([]api.Input{{Kind: x, Seconds: y}, {Kind: api.InWait, Seconds: y}, {Kind: api.InWait, Seconds: y}})
		}
	}
}
