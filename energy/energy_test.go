package energy_test

import (
	"fmt"
	"math"
	"math/rand"
	"slices"
	"testing"

	"domicile/api"
	"domicile/energy"
)

func same(a, b any) bool { return fmt.Sprintf("%+v", a) == fmt.Sprintf("%+v", b) }

func small() api.Grid {
	return api.Grid{Fuse: 10, Base: []int{1, 1, 1}, Price: []int{5, 1, 3}}
}

func load() []api.Load { return []api.Load{{Power: 4, Length: 1, Last: 2}} }

// P40.1: the examples of the chapter.
func TestExamples(t *testing.T) {
	battery := api.Battery{Capacity: 2, Power: 1, Charge: 1}
	worn := battery
	worn.Wear = 3
	for i, test := range []struct {
		b    api.Battery
		want api.Schedule
	}{
		{api.Battery{}, api.Schedule{Starts: []int{1}, Flow: []int{0, 0, 0}, Cost: 13}},
		{battery, api.Schedule{Starts: []int{1}, Flow: []int{-1, 1, -1}, Cost: 6}},
		{worn, api.Schedule{Starts: []int{1}, Flow: []int{-1, 0, 0}, Cost: 11}},
	} {
		if got, err := energy.Best(small(), test.b, load()); err != api.OK || !same(got, test.want) {
			t.Errorf("%d: Best = %v, %d", i, got, err)
		}
		if got, err := energy.Cost(small(), test.b, load(), test.want); err != api.OK || got != test.want.Cost {
			t.Errorf("%d: Cost = %d, %d", i, got, err)
		}
	}
	tight := small()
	tight.Fuse = 4
	if got, err := energy.Best(tight, api.Battery{}, load()); err != api.ErrNone || !same(got, api.Schedule{}) {
		t.Errorf("Best = %v, %d", got, err)
	}
	// A battery can give what the fuse does not permit.
	if got, err := energy.Best(tight, battery, load()); err != api.OK || got.Cost != 5+4*1+3+0 {
		t.Errorf("Best = %v, %d", got, err)
	}
}

// P40.1: what is well-formed.
func TestValid(t *testing.T) {
	wide := api.Grid{Fuse: 1000, Base: slices.Repeat([]int{100}, 24), Price: slices.Repeat([]int{100}, 24)}
	big := api.Battery{Capacity: 20, Power: 20, Charge: 20, Wear: 100}
	eight := slices.Repeat([]api.Load{{Power: 100, Length: 24, Last: 23}}, 8)
	one := api.Grid{Base: []int{0}, Price: []int{0}}
	grid := func(change func(*api.Grid)) api.Grid {
		g := api.Grid{Fuse: 5, Base: []int{1, 2}, Price: []int{3, 4}}
		change(&g)
		return g
	}
	with := func(x api.Load) []api.Load { return []api.Load{{Power: 1, Length: 1}, x} }
	for i, test := range []struct {
		g  api.Grid
		b  api.Battery
		l  []api.Load
		ok bool
	}{
		{wide, big, eight, true}, {one, api.Battery{}, nil, true}, {small(), api.Battery{}, []api.Load{{Power: 1, Length: 2, First: 1, Last: 2}}, true},
		{api.Grid{}, api.Battery{}, nil, false}, {api.Grid{Base: make([]int, 25), Price: make([]int, 25)}, api.Battery{}, nil, false}, {grid(func(g *api.Grid) { g.Price = g.Price[:1] }), api.Battery{}, nil, false}, {grid(func(g *api.Grid) { g.Base = g.Base[:1] }), api.Battery{}, nil, false},
		{grid(func(g *api.Grid) { g.Base[1] = 101 }), api.Battery{}, nil, false}, {grid(func(g *api.Grid) { g.Base[0] = -1 }), api.Battery{}, nil, false}, {grid(func(g *api.Grid) { g.Price[1] = 101 }), api.Battery{}, nil, false}, {grid(func(g *api.Grid) { g.Price[0] = -1 }), api.Battery{}, nil, false},
		{grid(func(g *api.Grid) { g.Fuse = -1 }), api.Battery{}, nil, false}, {grid(func(g *api.Grid) { g.Fuse = 1001 }), api.Battery{}, nil, false}, {small(), big, append(eight, eight[0]), false},
		{small(), api.Battery{Capacity: 21}, nil, false}, {small(), api.Battery{Capacity: -1}, nil, false}, {small(), api.Battery{Power: 21}, nil, false}, {small(), api.Battery{Power: -1}, nil, false}, {small(), api.Battery{Capacity: 3, Charge: 4}, nil, false}, {small(), api.Battery{Charge: -1}, nil, false}, {small(), api.Battery{Wear: 101}, nil, false}, {small(), api.Battery{Wear: -1}, nil, false},
		{small(), api.Battery{}, with(api.Load{Power: 0, Length: 1}), false}, {small(), api.Battery{}, with(api.Load{Power: 101, Length: 1}), false}, {small(), api.Battery{}, with(api.Load{Power: 1, Length: 0}), false}, {small(), api.Battery{}, with(api.Load{Power: 1, Length: 2}), false}, {small(), api.Battery{}, with(api.Load{Power: 1, Length: 1, First: -1}), false},
		{small(), api.Battery{}, with(api.Load{Power: 1, Length: 1, First: 1, Last: 3}), false}, {small(), api.Battery{}, with(api.Load{Power: 1, Length: 1, First: 2, Last: 1}), false}, {small(), api.Battery{}, with(api.Load{Power: 1, Length: -1, First: 2}), false}, {small(), api.Battery{}, with(api.Load{Power: 1, Length: math.MaxInt, First: math.MaxInt, Last: math.MinInt}), false},
	} {
		if got := energy.Valid(test.g, test.b, test.l); got != test.ok || refValid(test.g, test.b, test.l) != test.ok {
			t.Errorf("%d: Valid = %v", i, got)
		}
		if test.ok {
			continue
		}
		s := api.Schedule{Starts: make([]int, len(test.l)), Flow: make([]int, len(test.g.Base))}
		if got, err := energy.Cost(test.g, test.b, test.l, s); err != api.ErrArg || got != 0 {
			t.Errorf("%d: Cost = %d, %d", i, got, err)
		}
		if got, err := energy.Best(test.g, test.b, test.l); err != api.ErrArg || !same(got, api.Schedule{}) {
			t.Errorf("%d: Best = %v, %d", i, got, err)
		}
	}
}

// P40.1, AN2: the errors of Cost, and their order.
func TestCost(t *testing.T) {
	b := api.Battery{Capacity: 3, Power: 2, Charge: 1, Wear: 7}
	for i, test := range []struct {
		s    api.Schedule
		cost int
		err  api.Errno
	}{
		{api.Schedule{Starts: []int{2}, Flow: []int{2, -1, -2}, Cost: 99}, 15 + 0 + 9 + 21, api.OK}, {api.Schedule{Starts: []int{0}, Flow: []int{-1, 2, 1}}, 20 + 3 + 6 + 7, api.OK},
		{api.Schedule{Flow: []int{0, 0, 0}}, 0, api.ErrArg}, {api.Schedule{Starts: []int{1, 1}, Flow: []int{0, 0, 0}}, 0, api.ErrArg}, {api.Schedule{Starts: []int{1}, Flow: []int{0, 0}}, 0, api.ErrArg}, {api.Schedule{Starts: []int{9}, Flow: []int{0, 0, 0, 0}}, 0, api.ErrArg},
		{api.Schedule{Starts: []int{3}, Flow: []int{0, 0, 0}}, 0, api.ErrRange}, {api.Schedule{Starts: []int{-1}, Flow: []int{0, 0, 0}}, 0, api.ErrRange}, {api.Schedule{Starts: []int{math.MaxInt}, Flow: []int{0, 0, 0}}, 0, api.ErrRange}, {api.Schedule{Starts: []int{math.MinInt}, Flow: []int{0, 0, 0}}, 0, api.ErrRange},
		{api.Schedule{Starts: []int{1}, Flow: []int{0, 3, 0}}, 0, api.ErrRange}, {api.Schedule{Starts: []int{1}, Flow: []int{2, -3, 0}}, 0, api.ErrRange}, {api.Schedule{Starts: []int{1}, Flow: []int{0, -2, 0}}, 0, api.ErrRange}, {api.Schedule{Starts: []int{1}, Flow: []int{2, 1, 0}}, 0, api.ErrRange}, {api.Schedule{Starts: []int{1}, Flow: []int{2, 0, -2}}, 0, api.ErrRange},
		{api.Schedule{Starts: []int{1}, Flow: []int{math.MinInt, math.MaxInt, 0}}, 0, api.ErrRange},
	} {
		if got, err := energy.Cost(small(), b, load(), test.s); err != test.err || got != test.cost {
			t.Errorf("%d: Cost(%v) = %d, %d, want %d, %d", i, test.s, got, err, test.cost, test.err)
		}
	}
	tight := small()
	tight.Fuse = 6
	if _, err := energy.Cost(tight, b, load(), api.Schedule{Starts: []int{1}, Flow: []int{0, 1, 0}}); err != api.OK {
		t.Errorf("Cost at the fuse = %d", err)
	}
	if _, err := energy.Cost(tight, b, load(), api.Schedule{Starts: []int{1}, Flow: []int{0, 2, 0}}); err != api.ErrRange {
		t.Errorf("Cost beyond the fuse = %d", err)
	}
}

// P40.1, AN3: the limit of choices, and the order of the errors.
func TestLimit(t *testing.T) {
	g := api.Grid{Fuse: 1000, Base: make([]int, 24), Price: slices.Repeat([]int{7}, 24)}
	loads := func(counts ...int) []api.Load {
		var l []api.Load
		for _, n := range counts {
			l = append(l, api.Load{Power: 1, Length: 1, Last: n - 1})
		}
		return l
	}
	b := api.Battery{Capacity: 20, Power: 20, Charge: 7, Wear: 1}
	want := api.Schedule{Starts: []int{0, 0, 0, 0}, Flow: make([]int, 24), Cost: 4}
	want.Flow[0] = -4
	if got, err := energy.Best(g, b, loads(20, 5, 10, 5)); err != api.OK || !same(got, want) {
		t.Errorf("Best with 5000 choices = %v, %d, want %v", got, err, want)
	}
	for _, l := range [][]api.Load{loads(24, 24, 9), loads(24, 24, 24, 24, 24, 24, 24, 24), loads(1, 1, 13, 5, 11, 7)} {
		if got, err := energy.Best(g, b, l); err != api.ErrLimit || !same(got, api.Schedule{}) {
			t.Errorf("Best of %v = %v, %d", l, got, err)
		}
	}
	late := slices.Repeat([]api.Load{{Power: 1, Length: 1, First: 20, Last: 23}}, 6)
	if got, err := energy.Best(g, api.Battery{}, late); err != api.OK || !slices.Equal(got.Starts, []int{20, 20, 20, 20, 20, 20}) {
		t.Errorf("Best with 4096 choices = %v, %d", got, err)
	}
	if _, err := energy.Best(g, api.Battery{}, append(late, late[0])); err != api.ErrLimit {
		t.Errorf("Best with 16384 choices = %d", err)
	}
	g.Fuse, g.Base[0] = 0, 100
	if _, err := energy.Best(g, b, loads(24, 24, 9)); err != api.ErrLimit {
		t.Errorf("Best = %d", err)
	}
	if _, err := energy.Best(g, b, loads(24, 24)); err != api.ErrNone {
		t.Errorf("Best = %d", err)
	}
	g.Base[0] = 101
	if _, err := energy.Best(g, b, loads(24, 24, 9)); err != api.ErrArg {
		t.Errorf("Best = %d", err)
	}
}

// P40.1 to P40.3: random houses, against trying all schedules.
func TestRandom(t *testing.T) {
	m := maker{rand.New(rand.NewSource(1))}
	none, flows, costs := 0, 0, map[api.Errno]int{}
	for range 1500 {
		g, b, l := m.house()
		got, err := energy.Best(g, b, l)
		want, found := refBest(g, b, l)
		if (err == api.OK) != found || !same(got, want) || !found && err != api.ErrNone {
			t.Fatalf("Best(%v, %v, %v) = %v, %d, want %v", g, b, l, got, err, want)
		}
		if !found {
			none++
		}
		if slices.ContainsFunc(got.Flow, func(n int) bool { return n > 0 }) {
			flows++
		}
		s := m.schedule(g, b, l)
		cost, err := energy.Cost(g, b, l, s)
		wantCost, ok := refCost(g, b, l, s)
		if (err == api.OK) != ok || cost != wantCost || !ok && err != api.ErrRange {
			t.Fatalf("Cost(%v, %v, %v, %v) = %d, %d, want %d", g, b, l, s, cost, err, wantCost)
		}
		costs[err]++
	}
	if none < 50 || flows < 100 || costs[api.OK] < 200 || costs[api.ErrRange] < 200 {
		t.Errorf("the test covers too little: %d, %d, %v", none, flows, costs)
	}
}

// P3: equal arguments yield equal results, arguments stay as they are, and results share no memory.
func TestIndependence(t *testing.T) {
	m := maker{rand.New(rand.NewSource(2))}
	for range 200 {
		g, b, l := m.house()
		before := fmt.Sprint(g, b, l)
		first, err := energy.Best(g, b, l)
		text := fmt.Sprint(first, err)
		for i := range first.Starts {
			first.Starts[i] = 99
		}
		for i := range first.Flow {
			first.Flow[i] = 99
		}
		second, err := energy.Best(g, b, l)
		if fmt.Sprint(second, err) != text || fmt.Sprint(g, b, l) != before {
			t.Fatalf("%s: %s and %v", before, text, second)
		}
	}
}
