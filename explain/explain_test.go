package explain_test

import (
	"fmt"
	"math"
	"math/rand"
	"slices"
	"testing"

	"domicile/api"
	"domicile/explain"
	"domicile/rules"
)

func same(a, b any) bool { return fmt.Sprintf("%+v", a) == fmt.Sprintf("%+v", b) }

func set(v, value int) api.Input { return api.Input{Kind: api.InSet, Var: v, Value: value} }

// lamp is the example of the chapter.
func lamp() (api.Model, []api.Input) {
	m := api.Model{
		Vars:   []api.Var{{Size: 2, Sensor: true}, {Size: 2}},
		Timers: 1,
		Rules: []api.Rule{
			{Timer: -1, Trigger: api.Atom{Var: 0, Op: api.OpEq, Value: 1}, Guard: []api.Atom{{Var: 1, Op: api.OpEq}}, Sets: []api.Set{{Var: 1, Value: 1}}, Starts: []api.Start{{Timer: 0, Seconds: 5}}},
			{Timer: 0, Sets: []api.Set{{Var: 1, Value: 0}}},
		},
	}
	return m, []api.Input{set(0, 1), {Kind: api.InWait, Seconds: 5}, {Kind: api.InExpire, Timer: 0}}
}

// P42.1: the examples of the chapter.
func TestExamples(t *testing.T) {
	m, l := lamp()
	causes := []api.Why{{Kind: api.WhyInput, Step: 0, Rule: -1, Var: 0, Value: 1}, {Kind: api.WhyStart, Rule: -1, Var: 1}}
	on := api.Why{Kind: api.WhyRule, Rule: 0, Var: 1, Value: 1, From: causes}
	start := api.Why{Kind: api.WhyRule, Rule: 0, Var: -1, From: causes}
	off := api.Why{Kind: api.WhyRule, Step: 2, Rule: 1, Var: 1, From: []api.Why{{Kind: api.WhyInput, Step: 2, Rule: -1, Var: -1, From: []api.Why{start}}}}
	for step, want := range map[int]api.Why{0: on, 2: off} {
		got, err := explain.Tree(m, l, step, 0)
		if err != api.OK || !same(got, want) || !explain.Check(m, l, step, 0, want) {
			t.Errorf("Tree of %d = %+v, %d", step, got, err)
		}
	}
	if got := explain.Leaves(off); !slices.Equal(got, []int{0, 2}) {
		t.Errorf("Leaves = %v", got)
	}
	if got := explain.Leaves(on); !slices.Equal(got, []int{0}) {
		t.Errorf("Leaves = %v", got)
	}
	if explain.Check(m, l, 0, 0, off) || explain.Check(m, l, 1, 0, on) || explain.Check(m, l, 0, 0, api.Why{}) || explain.Check(m, l, 1, 0, api.Why{}) {
		t.Error("Check of another tree")
	}
}

// P42.1: the errors, and their order.
func TestErrors(t *testing.T) {
	m, l := lamp()
	wrong := m
	wrong.Timers = 41
	late := append(slices.Clone(l), set(0, 1), set(0, 0))
	long := slices.Repeat([]api.Input{set(0, 1), set(0, 0)}, 201)
	for i, test := range []struct {
		m             api.Model
		l             []api.Input
		step, command int
		want          api.Errno
	}{
		{wrong, l, 3, 0, api.ErrArg}, {m, nil, 0, 0, api.ErrArg}, {m, l, -1, 0, api.ErrArg}, {m, l, 3, 0, api.ErrArg}, {m, l, math.MaxInt, 0, api.ErrArg}, {m, l, math.MinInt, 0, api.ErrArg}, {wrong, l, 0, 0, api.ErrArg},
		{m, l, 0, 1, api.ErrArg}, {m, l, 0, -1, api.ErrArg}, {m, l, 0, math.MaxInt, api.ErrArg}, {m, l, 1, 0, api.ErrArg}, {m, late, 3, 0, api.ErrState}, {m, late, 4, 0, api.ErrState}, {m, late, 4, 7, api.ErrState}, {m, late, 2, 0, api.OK}, {m, late, 5, 0, api.ErrArg},
		{m, long, 400, 0, api.ErrLimit}, {m, long, 0, 0, api.OK}, {m, []api.Input{{}}, 0, 0, api.ErrArg}, {m, long, 399, 0, api.ErrArg},
	} {
		got, err := explain.Tree(test.m, test.l, test.step, test.command)
		if err != test.want || err != api.OK && !same(got, api.Why{}) {
			t.Errorf("%d: Tree = %+v, %d, want %d", i, got, err, test.want)
		}
		if explain.Check(test.m, test.l, test.step, test.command, got) != (err == api.OK) {
			t.Errorf("%d: Check", i)
		}
	}
}

// toggling returns rules that set a variable again and again, each time because of itself.
func toggling(sensor, variable, times int) []api.Rule {
	guard := slices.Repeat([]api.Atom{{Var: variable, Op: api.OpGe}}, times)
	var l []api.Rule
	for value := range 2 {
		l = append(l, api.Rule{Timer: -1, Trigger: api.Atom{Var: sensor, Op: api.OpEq, Value: value}, Guard: guard, Sets: []api.Set{{Var: variable, Value: value}}})
	}
	return l
}

// P42.1: a tree has at most 4000 nodes.
func TestLimit(t *testing.T) {
	// The variables 1, 3 and 5 follow the sensors before them; 6 is the last sensor, and 7 a constant.
	m := api.Model{Vars: slices.Repeat([]api.Var{{Size: 2, Sensor: true}}, 9)}
	m.Rules = slices.Concat(toggling(0, 1, 2), toggling(2, 3, 2), toggling(4, 5, 1))
	last := api.Rule{Timer: -1, Trigger: api.Atom{Var: 6, Op: api.OpEq, Value: 1}, Sets: []api.Set{{Var: 8, Value: 1}}}
	for _, v := range []int{1, 3, 5, 7} {
		last.Guard = append(last.Guard, api.Atom{Var: v, Op: api.OpGe})
	}
	m.Rules = append(m.Rules, last)
	var l []api.Input
	for sensor, times := range map[int]int{0: 10, 2: 8, 4: 80} {
		for i := range times {
			l = append(l, set(sensor, 1-i%2))
		}
	}
	l = append(l, set(6, 1))
	tree, err := explain.Tree(m, l, 98, 0)
	if err != api.OK || size(tree) != 4000 || !explain.Check(m, l, 98, 0, tree) {
		t.Fatalf("Tree has %d nodes, %d", size(tree), err)
	}
	m.Rules[6].Guard = append(m.Rules[6].Guard, api.Atom{Var: 7, Op: api.OpGe})
	if tree, err := explain.Tree(m, l, 98, 0); err != api.ErrLimit || !same(tree, api.Why{}) || explain.Check(m, l, 98, 0, tree) {
		t.Errorf("Tree has %d nodes, %d", size(tree), err)
	}
	// Without an end to its growth, the tree is not built.
	long := slices.Repeat([]api.Input{set(0, 1), set(0, 0)}, 200)
	if tree, err := explain.Tree(m, long, 399, 0); err != api.ErrLimit || !same(tree, api.Why{}) {
		t.Errorf("Tree has %d nodes, %d", size(tree), err)
	}
}

// P42.1: which command of a wave, and of several waves, is explained.
func TestWaves(t *testing.T) {
	m := api.Model{Vars: []api.Var{{Size: 2, Sensor: true}, {Size: 4}, {Size: 2}}}
	becomes := func(v, value int) api.Atom { return api.Atom{Var: v, Op: api.OpEq, Value: value} }
	rule := func(priority int, trigger api.Atom, sets ...api.Set) {
		m.Rules = append(m.Rules, api.Rule{Priority: priority, Timer: -1, Trigger: trigger, Sets: sets})
	}
	rule(0, becomes(0, 1), api.Set{Var: 1, Value: 1})
	rule(1, becomes(0, 1), api.Set{Var: 1, Value: 2})
	rule(1, becomes(0, 1), api.Set{Var: 1, Value: 2})
	rule(0, becomes(1, 2), api.Set{Var: 2, Value: 1})
	rule(0, becomes(2, 1), api.Set{Var: 1, Value: 3})
	l := []api.Input{set(0, 1)}
	input := api.Why{Kind: api.WhyInput, Rule: -1, Value: 1}
	first := api.Why{Kind: api.WhyRule, Rule: 1, Var: 1, Value: 2, From: []api.Why{input}}
	second := api.Why{Kind: api.WhyRule, Rule: 3, Var: 2, Value: 1, From: []api.Why{first}}
	third := api.Why{Kind: api.WhyRule, Rule: 4, Var: 1, Value: 3, From: []api.Why{second}}
	for command, want := range []api.Why{third, second} {
		if got, err := explain.Tree(m, l, 0, command); err != api.OK || !same(got, want) {
			t.Errorf("Tree of %d = %+v, %d, want %+v", command, got, err, want)
		}
	}
	// Of two rules of one priority the preferred one, or the first one, is the cause.
	m.Rules[2].Sets[0].Value = 3
	if got, _ := explain.Tree(m, l, 0, 0); got.From[0].From[0].Rule != 1 {
		t.Errorf("Tree = %+v", got)
	}
	m.Over = []api.Pair{{Winner: 2, Loser: 1}}
	if got, _ := explain.Tree(m, l, 0, 0); got.Rule != 2 || got.Value != 3 {
		t.Errorf("Tree = %+v", got)
	}
}

// P42.1: the last start of a timer counts, not one that stops it, nor one in the step of the expiry.
func TestTimers(t *testing.T) {
	m := api.Model{Vars: []api.Var{{Size: 3, Sensor: true}, {Size: 2}}, Timers: 2}
	for value := range 3 {
		m.Rules = append(m.Rules, api.Rule{Timer: -1, Trigger: api.Atom{Op: api.OpEq, Value: value}, Starts: []api.Start{{Timer: 0, Seconds: 2}, {Timer: 1, Seconds: value}}})
	}
	m.Rules = append(m.Rules, api.Rule{Timer: 0, Sets: []api.Set{{Var: 1, Value: 1}}, Starts: []api.Start{{Timer: 0, Seconds: 1}}}, api.Rule{Timer: 1, Sets: []api.Set{{Var: 1, Value: 0}}})
	expire := func(timer int) api.Input { return api.Input{Kind: api.InExpire, Timer: timer} }
	l := []api.Input{set(0, 1), set(0, 2), {Kind: api.InWait, Seconds: 2}, expire(1), expire(0), {Kind: api.InWait, Seconds: 1}, expire(0)}
	for step, want := range map[int][3]int{3: {1, 1, 2}, 4: {0, 1, 2}, 6: {0, 4, 3}} {
		got, err := explain.Tree(m, l, step, 0)
		if err != api.OK {
			t.Fatalf("Tree of %d = %d", step, err)
		}
		start := got.From[0].From[0]
		if got.From[0].Value != want[0] || start.Step != want[1] || start.Rule != want[2] || start.Var != -1 || start.Value != want[0] {
			t.Errorf("Tree of %d = %+v", step, got)
		}
	}
	// A rule that stops the timer in between is not its start.
	m.Rules[0].Starts[1].Seconds, m.Rules[1].Starts = 0, []api.Start{{Timer: 0}}
	l = []api.Input{set(0, 2), set(0, 1), set(0, 2), {Kind: api.InWait, Seconds: 2}, expire(0)}
	if got, err := explain.Tree(m, l, 4, 0); err != api.OK || got.From[0].From[0].Step != 2 {
		t.Errorf("Tree = %+v, %d", got, err)
	}
}

// P42.1: leaves of any tree.
func TestLeaves(t *testing.T) {
	input := func(step int, from ...api.Why) api.Why {
		return api.Why{Kind: api.WhyInput, Step: step, From: from}
	}
	w := api.Why{Kind: 9, Step: 4, From: []api.Why{input(7, input(3), input(7), input(-2)), {Kind: api.WhyStart, Step: 5, From: []api.Why{input(1)}}}}
	if got := explain.Leaves(w); !slices.Equal(got, []int{-2, 1, 3, 7}) {
		t.Errorf("Leaves = %v", got)
	}
	if got := explain.Leaves(api.Why{}); len(got) > 0 {
		t.Errorf("Leaves = %v", got)
	}
	deep := input(0)
	for i := range 60000 {
		deep = input(i%5, deep)
	}
	if got := explain.Leaves(deep); !slices.Equal(got, []int{0, 1, 2, 3, 4}) {
		t.Errorf("Leaves = %v", got)
	}
	m, l := lamp()
	if explain.Check(m, l, 0, 0, deep) {
		t.Error("Check of a deep tree")
	}
}

// each calls f with the runs of random models, and each command with its tree.
func each(t *testing.T, seed int64, n int, f func(m maker, r run, step, command int, w api.Why)) {
	t.Helper()
	m := maker{rand.New(rand.NewSource(seed))}
	for range n {
		r := m.run(m.model(), 10)
		for step, s := range r.steps {
			for command := range s.Commands {
				w, err := explain.Tree(r.m, r.l, step, command)
				if err == api.ErrLimit {
					continue
				}
				if err != api.OK {
					t.Fatalf("Tree(%+v, %v, %d, %d) = %d", r.m, r.l, step, command, err)
				}
				f(m, r, step, command, w)
			}
		}
	}
}

// P42.1: random runs, against the definitions.
func TestRandom(t *testing.T) {
	trees, large, timers := 0, 0, 0
	each(t, 1, 4000, func(_ maker, r run, step, command int, w api.Why) {
		if want := r.tree(step, command); !same(w, want) {
			t.Fatalf("Tree(%+v, %v, %d, %d) = %+v, want %+v", r.m, r.l, step, command, w, want)
		}
		if got := explain.Leaves(w); !slices.Equal(got, refLeaves(w)) {
			t.Fatalf("Leaves(%+v) = %v", w, got)
		}
		trees++
		if size(w) > 15 {
			large++
		}
		nodes(w, func(w api.Why) {
			if w.Kind == api.WhyInput && w.Var == -1 {
				timers++
			}
		})
	})
	if trees < 2000 || large < 300 || timers < 300 {
		t.Errorf("the test covers too little: %d, %d, %d", trees, large, timers)
	}
}

// P3: equal arguments yield equal results, arguments stay as they are, and results share no memory.
func TestIndependence(t *testing.T) {
	each(t, 2, 100, func(_ maker, r run, step, command int, w api.Why) {
		before, text := fmt.Sprint(r.m, r.l), fmt.Sprint(w)
		var scratch func(w *api.Why)
		scratch = func(w *api.Why) {
			for i := range w.From {
				scratch(&w.From[i])
			}
			w.Step = 99
		}
		scratch(&w)
		again, _ := explain.Tree(r.m, r.l, step, command)
		if fmt.Sprint(again) != text || fmt.Sprint(r.m, r.l) != before {
			t.Fatalf("%s: %s and %v", before, text, again)
		}
	})
	if _, err := rules.Run(api.Model{}, nil); err != api.OK {
		t.Fatal("the empty run")
	}
}
