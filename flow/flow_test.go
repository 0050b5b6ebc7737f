package flow_test

import (
	"fmt"
	"math/rand"
	"slices"
	"testing"

	"domicile/api"
	"domicile/flow"
	"domicile/rules"
)

// is returns the comparison of a variable with a value; set, expire and wait return inputs.
func is(v, value int) api.Atom    { return api.Atom{Var: v, Op: api.OpEq, Value: value} }
func set(v, value int) api.Input  { return api.Input{Kind: api.InSet, Var: v, Value: value} }
func expire(timer int) api.Input  { return api.Input{Kind: api.InExpire, Timer: timer} }
func wait(seconds int) api.Input  { return api.Input{Kind: api.InWait, Seconds: seconds} }
func put(v, value int) []api.Set  { return []api.Set{{Var: v, Value: value}} }
func start(timer int) []api.Start { return []api.Start{{Timer: timer, Seconds: 5}} }

// example returns the model of the chapter's examples.
func example() api.Model {
	return api.Model{
		Vars: []api.Var{{Size: 2, Sensor: true, Private: true}, {Size: 2}, {Size: 2, Shown: true}}, Timers: 1,
		Rules: []api.Rule{
			{Timer: -1, Trigger: is(0, 1), Sets: put(1, 1)},
			{Timer: -1, Trigger: is(1, 1), Starts: start(0)},
			{Timer: 0, Sets: put(2, 1)},
		},
	}
}

// P21.1: the examples of the chapter.
func TestExamples(t *testing.T) {
	m := example()
	if vars, timers := flow.Hidden(m); !slices.Equal(vars, []bool{true, true, true}) || !slices.Equal(timers, []bool{true}) {
		t.Errorf("hidden are %v, %v", vars, timers)
	}
	if got := flow.Leaks(m); !slices.Equal(got, []api.Leak{{Rule: 2, Var: 2}}) {
		t.Errorf("the leaks are %v", got)
	}
	if got := flow.View(m, rules.Start(m)); !slices.Equal(got, []int{0}) {
		t.Errorf("the view is %v", got)
	}
	if got := flow.Purge(m, []api.Input{set(0, 1), wait(5), expire(0), wait(3)}); !slices.Equal(got, []api.Input{wait(8)}) {
		t.Errorf("the purged inputs are %v", got)
	}
}

// P21.1, U1, U2: what is hidden, condition by condition.
func TestConditions(t *testing.T) {
	secret := api.Var{Size: 2, Sensor: true, Private: true}
	shown := api.Var{Size: 2, Shown: true}
	for i, test := range []struct {
		vars   []api.Var
		rules  []api.Rule
		hidden []bool
		timers []bool
		leaks  []api.Leak
	}{
		{[]api.Var{{Size: 2, Private: true}, {Size: 2, Sensor: true}, secret}, nil, []bool{false, false, true}, []bool{false, false}, nil},
		{[]api.Var{{Size: 2, Sensor: true, Private: true, Shown: true}}, nil, []bool{true}, []bool{false, false}, []api.Leak{{Rule: -1}}},
		{[]api.Var{secret, shown}, []api.Rule{{Timer: -1, Trigger: is(0, 0), Sets: put(1, 0)}}, []bool{true, true}, []bool{false, false}, []api.Leak{{Rule: 0, Var: 1}}},
		{[]api.Var{secret, shown}, []api.Rule{{Timer: -1, Trigger: is(1, 0), Guard: []api.Atom{is(1, 0), is(0, 1)}, Sets: put(1, 0)}}, []bool{true, true}, []bool{false, false}, []api.Leak{{Rule: 0, Var: 1}}},
		{[]api.Var{secret, shown}, []api.Rule{{Timer: -1, Trigger: is(1, 0), Sets: put(1, 0)}}, []bool{true, false}, []bool{false, false}, nil},
		// The zero comparison of a rule with a timer compares nothing.
		{[]api.Var{secret, shown}, []api.Rule{{Timer: 0, Sets: put(1, 0)}}, []bool{true, false}, []bool{false, false}, nil},
		{[]api.Var{secret, shown}, []api.Rule{{Timer: 0, Sets: put(1, 0)}, {Timer: 1, Starts: start(0)}, {Timer: -1, Trigger: is(0, 1), Starts: []api.Start{{Timer: 1}}}}, []bool{true, true}, []bool{true, true}, []api.Leak{{Rule: 0, Var: 1}}},
		// A variable that is hidden, but that a visible rule sets.
		{[]api.Var{secret, shown}, []api.Rule{{Timer: 1, Sets: put(1, 1)}, {Timer: -1, Trigger: is(0, 1), Sets: put(1, 0)}}, []bool{true, true}, []bool{false, false}, []api.Leak{{Rule: 1, Var: 1}}},
		{[]api.Var{{Size: 2, Sensor: true, Private: true, Shown: true}, shown, shown}, []api.Rule{{Timer: -1, Trigger: is(0, 1), Sets: []api.Set{{Var: 0}, {Var: 1}, {Var: 2}}}}, []bool{true, true, true}, []bool{false, false}, []api.Leak{{Rule: -1}, {Rule: 0}, {Rule: 0, Var: 1}, {Rule: 0, Var: 2}}},
	} {
		m := api.Model{Vars: test.vars, Timers: 2, Rules: test.rules}
		vars, timers := flow.Hidden(m)
		if !slices.Equal(vars, test.hidden) || !slices.Equal(timers, test.timers) {
			t.Errorf("%d: hidden are %v, %v, want %v, %v", i, vars, timers, test.hidden, test.timers)
		}
		if got := flow.Leaks(m); !slices.Equal(got, test.leaks) {
			t.Errorf("%d: the leaks are %v, want %v", i, got, test.leaks)
		}
	}
}

// P21.1: arguments without a result.
func TestInvalid(t *testing.T) {
	bad := example()
	bad.Rules[2].Priority = 101
	vars, timers := flow.Hidden(bad)
	if len(vars)+len(timers)+len(flow.Leaks(bad))+len(flow.View(bad, rules.Start(example())))+len(flow.Purge(bad, []api.Input{wait(3)})) > 0 {
		t.Error("a model that is not well-formed has results")
	}
	m := example()
	for _, s := range []api.State{{}, {Values: []int{1, 1}}, {Values: []int{1, 1, 1, 1}}} {
		if got := flow.View(m, s); len(got) > 0 {
			t.Errorf("the view of %v is %v", s, got)
		}
	}
	// Nothing else of a state matters.
	if got := flow.View(m, api.State{Values: []int{7, 8, -9}, Left: []int{3, 3}}); !slices.Equal(got, []int{-9}) {
		t.Errorf("the view is %v", got)
	}
	visible := api.Model{Vars: []api.Var{{Size: 2, Sensor: true}}}
	many := slices.Repeat([]api.Input{set(0, 1)}, 401)
	if got := flow.Purge(visible, many[:400]); len(got) != 400 {
		t.Errorf("400 inputs become %d", len(got))
	}
	if got := flow.Purge(visible, many); len(got) > 0 {
		t.Errorf("401 inputs become %d", len(got))
	}
	if got := flow.Purge(m, slices.Repeat([]api.Input{set(0, 1)}, 401)); len(got) > 0 {
		t.Errorf("401 hidden inputs become %d", len(got))
	}
}

// P21.1, U4: which inputs stay, and how waits are joined.
func TestPurge(t *testing.T) {
	m := example()
	m.Vars = append(m.Vars, api.Var{Size: 2, Sensor: true})
	m.Timers = 2
	day := wait(86400)
	odd := api.Input{Kind: api.InSet, Var: 3, Value: -5, Timer: 77, Seconds: 99}
	for i, test := range []struct{ l, want []api.Input }{
		{nil, nil},
		{[]api.Input{set(3, 1), expire(1), expire(0), set(1, 1)}, []api.Input{set(3, 1), expire(1)}},
		{[]api.Input{odd, {Kind: 9}, set(4, 0), set(-1, 0), expire(2), expire(-1), {}}, []api.Input{odd, {Kind: 9}, set(4, 0), set(-1, 0), expire(2), expire(-1), {}}},
		{[]api.Input{wait(1), wait(0), wait(2), wait(-7), wait(86401), wait(3)}, []api.Input{wait(6)}},
		{[]api.Input{wait(1), set(3, 1), wait(2), set(0, 1), wait(3), expire(1)}, []api.Input{wait(1), set(3, 1), wait(5), expire(1)}},
		{[]api.Input{day}, []api.Input{day}},
		{[]api.Input{day, wait(1)}, []api.Input{day, wait(1)}},
		{[]api.Input{wait(1), day}, []api.Input{day, wait(1)}},
		{[]api.Input{wait(50000), wait(50000), wait(72800), set(3, 1)}, []api.Input{day, day, set(3, 1)}},
		{[]api.Input{{Kind: api.InWait, Seconds: 4, Var: 3, Value: 1, Timer: 2}}, []api.Input{wait(4)}},
		{[]api.Input{wait(0), {Kind: api.InSet, Var: 0, Seconds: 5}, {Kind: api.InExpire, Seconds: 5}}, nil},
		{slices.Repeat([]api.Input{day}, 400), slices.Repeat([]api.Input{day}, 400)},
	} {
		if got := flow.Purge(m, test.l); !slices.Equal(got, test.want) {
			t.Errorf("%d: %v, want %v", i, got, test.want)
		}
	}
}

// P21.1: random models, states and inputs have the results of the reference.
func TestReference(t *testing.T) {
	m := maker{rand.New(rand.NewSource(1))}
	hidden, leaks := 0, 0
	for range 20000 {
		model := m.model(1+m.Intn(6), 2+m.Intn(4))
		vars, timers := flow.Hidden(model)
		wantVars, wantTimers := refHidden(model)
		if !slices.Equal(vars, wantVars) || !slices.Equal(timers, wantTimers) {
			t.Errorf("Hidden(%+v) = %v, %v, want %v, %v", model, vars, timers, wantVars, wantTimers)
		}
		if slices.Contains(timers, true) && slices.Contains(vars, false) {
			hidden++
		}
		got := flow.Leaks(model)
		if want := refLeaks(model); !slices.Equal(got, want) {
			t.Errorf("Leaks(%+v) = %v, want %v", model, got, want)
		}
		leaks += len(got)
		l := m.inputs(model, m.Intn(12))
		if got, want := flow.Purge(model, l), refPurge(model, l); !slices.Equal(got, want) {
			t.Errorf("Purge(%+v, %v) = %v, want %v", model, l, got, want)
		}
		var s api.State
		var want []int
		for _, v := range model.Vars {
			s.Values = append(s.Values, m.Intn(9))
			if v.Shown {
				want = append(want, s.Values[len(s.Values)-1])
			}
		}
		if got := flow.View(model, s); !slices.Equal(got, want) {
			t.Errorf("View(%+v, %v) = %v", model, s, got)
		}
	}
	if hidden < 1000 || leaks < 3000 {
		t.Errorf("%d models with hidden timers, %d leaks", hidden, leaks)
	}
}

// P3: equal arguments have equal results, arguments are not changed, and results share nothing with them.
func TestIndependence(t *testing.T) {
	m := maker{rand.New(rand.NewSource(2))}
	for range 2000 {
		model := m.model(1+m.Intn(5), 2)
		s := rules.Start(model)
		l := m.inputs(model, 8)
		before := fmt.Sprint(model, s, l)
		vars, timers := flow.Hidden(model)
		leaks, view, purged := flow.Leaks(model), flow.View(model, s), flow.Purge(model, l)
		kept := fmt.Sprint(vars, timers, leaks, view, purged)
		clear(vars)
		clear(timers)
		clear(leaks)
		clear(view)
		clear(purged)
		vars, timers = flow.Hidden(model)
		again := fmt.Sprint(vars, timers, flow.Leaks(model), flow.View(model, s), flow.Purge(model, l))
		if again != kept || fmt.Sprint(model, s, l) != before {
			t.Fatalf("%s: %s, and then %s", before, kept, again)
		}
	}
}

// P1: no arguments make a function panic.
func TestExtremes(t *testing.T) {
	numbers := []int{-1 << 63, -2, -1, 0, 1, 2, 41, 1<<63 - 1}
	for _, x := range numbers {
		for _, y := range numbers {
			for _, m := range []api.Model{{}, {Timers: x}, example(), {Vars: []api.Var{{Size: x, Start: y}}}, {Rules: []api.Rule{{Timer: x, Trigger: is(y, y)}}}} {
				flow.Hidden(m)
				flow.Leaks(m)
				flow.View(m, api.State{Values: []int{x}})
				flow.Purge(m, []api.Input{{Kind: x}, set(x, y), expire(y), wait(x), wait(y), wait(y)})
			}
		}
	}
}
