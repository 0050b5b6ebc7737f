package rules_test

import (
	"math/rand"
	"reflect"
	"slices"
	"testing"

	"domicile/api"
	"domicile/rules"
)

// is returns a comparison.
func is(v, value int) api.Atom { return api.Atom{Var: v, Op: api.OpEq, Value: value} }

// when returns a rule with a comparison as its trigger, at returns one with a timer.
func when(a api.Atom, sets ...api.Set) api.Rule { return api.Rule{Timer: -1, Trigger: a, Sets: sets} }
func at(timer int, sets ...api.Set) api.Rule    { return api.Rule{Timer: timer, Sets: sets} }

// set, expire and wait return inputs.
func set(v, value int) api.Input { return api.Input{Kind: api.InSet, Var: v, Value: value} }
func expire(timer int) api.Input { return api.Input{Kind: api.InExpire, Timer: timer} }
func wait(seconds int) api.Input { return api.Input{Kind: api.InWait, Seconds: seconds} }

// vars returns variables of 2 values; the first ones are sensors.
func vars(count, sensors int) []api.Var {
	var list []api.Var
	for i := range count {
		list = append(list, api.Var{Size: 2, Sensor: i < sensors, Device: -1, Attr: -1})
	}
	return list
}

// example is the model of the chapter.
func example() api.Model {
	m := api.Model{Vars: vars(2, 1), Timers: 1, Rules: []api.Rule{when(is(0, 1), api.Set{Var: 1, Value: 1}), at(0, api.Set{Var: 1, Value: 0})},
		Laws: []api.Law{{Cond: []api.Atom{is(1, 1)}, Bound: 4}}}
	m.Rules[0].Starts = []api.Start{{Timer: 0, Seconds: 5}}
	return m
}

// apply returns the result of an input that is permitted.
func apply(t *testing.T, m api.Model, s api.State, in api.Input) api.Step {
	t.Helper()
	step, err := rules.Apply(m, s, in)
	if err != api.OK {
		t.Fatalf("Apply(%+v, %v, %v): %v", m, s, in, err)
	}
	return step
}

// wantError checks that an input has an error and no step.
func wantError(t *testing.T, m api.Model, s api.State, in api.Input, want api.Errno) {
	t.Helper()
	if step, err := rules.Apply(m, s, in); err != want || !reflect.DeepEqual(step, api.Step{}) {
		t.Errorf("Apply(%+v, %v, %v) = %+v, %v, want %v", m, s, in, step, err, want)
	}
}

// wantStep checks a step.
func wantStep(t *testing.T, got, want api.Step) {
	t.Helper()
	if !reflect.DeepEqual(normal(got), normal(want)) {
		t.Errorf("the step is %+v, want %+v", got, want)
	}
}

// P7.1: the example of the chapter, input by input.
func TestExample(t *testing.T) {
	m := example()
	if !rules.Valid(m) {
		t.Fatal("the example is not well-formed")
	}
	s := rules.Start(m)
	wantStep(t, api.Step{State: s}, api.Step{State: api.State{Values: []int{0, 0}, Left: []int{-1}, Over: []int{-1}}})
	step := apply(t, m, s, set(0, 1))
	wantStep(t, step, api.Step{State: api.State{Values: []int{1, 1}, Left: []int{5}, Over: []int{0}}, Commands: []api.Command{{Rule: 0, Var: 1, Value: 1}}, Firings: []api.Firing{{Wave: 0, Rule: 0}}})
	wantError(t, m, step.State, wait(6), api.ErrState)
	step = apply(t, m, step.State, wait(5))
	wantStep(t, step, api.Step{State: api.State{Values: []int{1, 1}, Left: []int{0}, Over: []int{5}}})
	if got := rules.Broken(m, step.State); !slices.Equal(got, []int{0}) {
		t.Errorf("the laws %v are broken, want the first one", got)
	}
	wantError(t, m, step.State, wait(1), api.ErrState)
	step = apply(t, m, step.State, expire(0))
	wantStep(t, step, api.Step{State: api.State{Values: []int{1, 0}, Left: []int{-1}, Over: []int{-1}}, Commands: []api.Command{{Rule: 1, Var: 1, Value: 0}}, Firings: []api.Firing{{Wave: 0, Rule: 1}}})
	wantError(t, m, step.State, expire(0), api.ErrState)
	m.Rules = append(m.Rules, when(is(0, 0), api.Set{Var: 1, Value: 1}), when(is(0, 0), api.Set{Var: 1, Value: 0}))
	step = apply(t, m, step.State, set(0, 0))
	wantStep(t, step, api.Step{State: api.State{Values: []int{0, 1}, Left: []int{-1}, Over: []int{0}}, Commands: []api.Command{{Rule: 2, Var: 1, Value: 1}},
		Firings: []api.Firing{{Wave: 0, Rule: 2}, {Wave: 0, Rule: 3}}, Clashes: []api.Clash{{First: 2, Second: 3, Var: 1}}})
}

// P7.1: which command is the present one, and what is a clash.
func TestCommands(t *testing.T) {
	on := is(0, 1)
	one, zero, two := api.Set{Var: 1, Value: 1}, api.Set{Var: 1, Value: 0}, api.Set{Var: 1, Value: 2}
	prior := func(r api.Rule, priority int) api.Rule {
		r.Priority = priority
		return r
	}
	clash := func(first, second int) api.Clash { return api.Clash{First: first, Second: second, Var: 1} }
	for _, test := range []struct {
		rules   []api.Rule
		over    []api.Pair
		want    api.Command
		clashes []api.Clash
	}{
		{[]api.Rule{when(on, one), when(on, one)}, nil, api.Command{Rule: 0, Var: 1, Value: 1}, nil},
		{[]api.Rule{when(on, one), prior(when(on, one), 1)}, nil, api.Command{Rule: 1, Var: 1, Value: 1}, nil},
		{[]api.Rule{prior(when(on, one), 1), when(on, one)}, nil, api.Command{Rule: 0, Var: 1, Value: 1}, nil},
		{[]api.Rule{when(on, one), when(on, zero)}, nil, api.Command{Rule: 0, Var: 1, Value: 1}, []api.Clash{clash(0, 1)}},
		{[]api.Rule{when(on, one), prior(when(on, zero), 1)}, nil, api.Command{Rule: 1, Var: 1, Value: 0}, nil},
		{[]api.Rule{prior(when(on, one), 1), when(on, zero)}, nil, api.Command{Rule: 0, Var: 1, Value: 1}, nil},
		{[]api.Rule{when(on, one), when(on, zero)}, []api.Pair{{Winner: 1, Loser: 0}}, api.Command{Rule: 1, Var: 1, Value: 0}, nil},
		{[]api.Rule{when(on, one), when(on, zero)}, []api.Pair{{Winner: 0, Loser: 1}}, api.Command{Rule: 0, Var: 1, Value: 1}, nil},
		{[]api.Rule{prior(when(on, one), 1), when(on, zero)}, []api.Pair{{Winner: 1, Loser: 0}}, api.Command{Rule: 0, Var: 1, Value: 1}, nil},
		{[]api.Rule{when(on, one), when(on, one)}, []api.Pair{{Winner: 1, Loser: 0}}, api.Command{Rule: 0, Var: 1, Value: 1}, nil},
		{[]api.Rule{when(on, one), when(on, zero), when(on, two)}, nil, api.Command{Rule: 0, Var: 1, Value: 1}, []api.Clash{clash(0, 1), clash(0, 2)}},
		{[]api.Rule{when(on, one), when(on, zero), when(on, two)}, []api.Pair{{Winner: 1, Loser: 0}}, api.Command{Rule: 1, Var: 1, Value: 0}, []api.Clash{clash(1, 2)}},
		{[]api.Rule{when(on, one), when(on, zero), when(on, two)}, []api.Pair{{Winner: 1, Loser: 0}, {Winner: 2, Loser: 1}, {Winner: 0, Loser: 2}}, api.Command{Rule: 2, Var: 1, Value: 2}, nil},
		{[]api.Rule{when(on, one), when(on, zero), when(on, one)}, []api.Pair{{Winner: 1, Loser: 0}}, api.Command{Rule: 1, Var: 1, Value: 0}, []api.Clash{clash(1, 2)}},
		{[]api.Rule{when(on, one), when(on, zero), prior(when(on, two), 1)}, nil, api.Command{Rule: 2, Var: 1, Value: 2}, []api.Clash{clash(0, 1)}},
		{[]api.Rule{prior(when(on, two), 1), when(on, one), when(on, zero)}, nil, api.Command{Rule: 0, Var: 1, Value: 2}, nil},
	} {
		m := api.Model{Vars: []api.Var{{Size: 2, Sensor: true}, {Size: 3}}, Rules: test.rules, Over: test.over}
		step := apply(t, m, rules.Start(m), set(0, 1))
		if !slices.Equal(step.Commands, []api.Command{test.want}) || !slices.Equal(step.Clashes, test.clashes) || step.State.Values[1] != test.want.Value {
			t.Errorf("%+v: %+v, want the command %v and the clashes %v", m, step, test.want, test.clashes)
		}
	}
}

// P7.1: clashes of several waves and variables are ordered, and each occurs once.
func TestClashes(t *testing.T) {
	both := func(a, b int) []api.Set { return []api.Set{{Var: 1, Value: a}, {Var: 2, Value: b}} }
	m := api.Model{Vars: vars(5, 1), Rules: []api.Rule{when(is(3, 1), both(0, 0)...), when(is(0, 1), both(0, 1)...), when(is(0, 1), both(1, 0)...), when(is(3, 1), both(1, 1)...), when(is(0, 1), api.Set{Var: 3, Value: 1}), when(is(3, 0), both(0, 0)...)}}
	step := apply(t, m, rules.Start(m), set(0, 1))
	want := []api.Clash{{First: 0, Second: 3, Var: 1}, {First: 0, Second: 3, Var: 2}, {First: 1, Second: 2, Var: 1}, {First: 1, Second: 2, Var: 2}}
	if !slices.Equal(step.Clashes, want) {
		t.Errorf("the clashes are %v, want %v", step.Clashes, want)
	}
	// Two rules that fire in several waves clash once.
	m = api.Model{Vars: vars(4, 1), Rules: []api.Rule{
		when(is(1, 1), api.Set{Var: 2, Value: 1}), when(is(1, 1), api.Set{Var: 2, Value: 0}),
		when(is(0, 1), api.Set{Var: 1, Value: 1}), when(is(1, 1), api.Set{Var: 1, Value: 0}), when(is(1, 0), api.Set{Var: 1, Value: 1})}}
	step = apply(t, m, rules.Start(m), set(0, 1))
	if want := []api.Clash{{First: 0, Second: 1, Var: 2}}; !step.Endless || !slices.Equal(step.Clashes, want) {
		t.Errorf("the clashes are %v, want %v; endless %v", step.Clashes, want, step.Endless)
	}
}

// P7.1: waves: a trigger becomes true after the wave before, guards are asked with the values after, the last command counts.
func TestWaves(t *testing.T) {
	m := api.Model{Vars: vars(4, 1), Timers: 2, Rules: []api.Rule{
		when(is(0, 1), api.Set{Var: 1, Value: 1}), when(is(1, 1), api.Set{Var: 2, Value: 1}), when(is(2, 1), api.Set{Var: 1, Value: 0}), when(is(1, 1), api.Set{Var: 3, Value: 1})}}
	m.Rules[3].Guard = []api.Atom{is(2, 1)}
	m.Rules[0].Starts = []api.Start{{Timer: 0, Seconds: 9}, {Timer: 1, Seconds: 7}}
	m.Rules[2].Starts = []api.Start{{Timer: 0, Seconds: 0}, {Timer: 1, Seconds: 86400}}
	step := apply(t, m, rules.Start(m), set(0, 1))
	wantStep(t, step, api.Step{State: api.State{Values: []int{1, 0, 1, 0}, Left: []int{-1, 86400}},
		Commands: []api.Command{{Rule: 2, Var: 1, Value: 0}, {Rule: 1, Var: 2, Value: 1}}, Firings: []api.Firing{{Wave: 0, Rule: 0}, {Wave: 1, Rule: 1}, {Wave: 2, Rule: 2}}})
	// Rules with a timer fire in the wave 0 of its expiring only, and may start it again.
	m = api.Model{Vars: vars(2, 1), Timers: 2, Rules: []api.Rule{at(0, api.Set{Var: 1, Value: 1}), when(is(1, 1), api.Set{Var: 0, Value: 1}), at(1), at(0)}}
	m.Rules[3].Guard = []api.Atom{is(1, 1)}
	m.Rules[1].Starts = []api.Start{{Timer: 0, Seconds: 3}}
	step = apply(t, m, api.State{Values: []int{0, 0}, Left: []int{0, 0}}, expire(0))
	wantStep(t, step, api.Step{State: api.State{Values: []int{1, 1}, Left: []int{3, 0}}, Commands: []api.Command{{Rule: 1, Var: 0, Value: 1}, {Rule: 0, Var: 1, Value: 1}}, Firings: []api.Firing{{Wave: 0, Rule: 0}, {Wave: 1, Rule: 1}}})
	// Of two rules that start a timer in one wave, the later one counts.
	m = api.Model{Vars: vars(1, 1), Timers: 1, Rules: []api.Rule{when(is(0, 1)), when(is(0, 1))}}
	m.Rules[0].Starts, m.Rules[1].Starts = []api.Start{{Seconds: 5}}, []api.Start{{Seconds: 6}}
	wantStep(t, apply(t, m, rules.Start(m), set(0, 1)), api.Step{State: api.State{Values: []int{1}, Left: []int{6}}, Firings: []api.Firing{{Rule: 0}, {Rule: 1}}})
}

// chain returns a model in which one input makes so many rules fire, one after the other.
func chain(length int) api.Model {
	m := api.Model{Vars: vars(length+1, 1)}
	for i := range length {
		m.Rules = append(m.Rules, when(is(i, 1), api.Set{Var: i + 1, Value: 1}))
	}
	return m
}

// P7.1: there are at most 32 waves; if the last one still changes something, the cascade is endless.
func TestEndless(t *testing.T) {
	for length, want := range map[int]bool{1: false, 30: false, 31: false, 32: true, 33: true, 60: true} {
		m := chain(length)
		step := apply(t, m, rules.Start(m), set(0, 1))
		fired := min(length, 32)
		if step.Endless != want || len(step.Firings) != fired || step.State.Values[fired] != 1 || fired < length && step.State.Values[fired+1] != 0 {
			t.Errorf("a chain of %d rules: %+v", length, step)
		}
	}
	m := api.Model{Vars: vars(3, 1), Rules: []api.Rule{when(is(0, 1), api.Set{Var: 1, Value: 1}), when(is(1, 1), api.Set{Var: 1, Value: 0}), when(is(1, 0), api.Set{Var: 1, Value: 1})}, Laws: []api.Law{{Cond: []api.Atom{is(1, 0)}, Bound: 0}}}
	step := apply(t, m, rules.Start(m), set(0, 1))
	if !step.Endless || len(step.Firings) != 32 || step.State.Values[1] != 0 || step.Firings[31] != (api.Firing{Wave: 31, Rule: 1}) || step.State.Over[0] != 0 || !slices.Equal(step.Commands, []api.Command{{Rule: 1, Var: 1, Value: 0}}) {
		t.Errorf("two rules in turn: %+v", step)
	}
}

// P7.1: laws count from what they had, from 0, or not at all.
func TestLaws(t *testing.T) {
	m := api.Model{Vars: vars(2, 2), Laws: []api.Law{{Cond: []api.Atom{is(0, 1)}, Bound: 3}, {Cond: []api.Atom{is(1, 1)}, Bound: 0}, {Cond: []api.Atom{is(0, 1), is(1, 1)}, Bound: 86400}, {Cond: []api.Atom{{Var: 0, Op: api.OpLt, Value: 2}}, Bound: 1}}}
	s := rules.Start(m)
	for _, test := range []struct {
		in     api.Input
		over   []int
		broken []int
	}{
		{set(0, 1), []int{0, -1, -1, 0}, nil},
		{wait(3), []int{3, -1, -1, 2}, []int{3}},
		{set(1, 1), []int{3, 0, 0, 2}, []int{3}},
		{wait(1), []int{4, 1, 1, 2}, []int{0, 1, 3}},
		{wait(86400), []int{4, 1, 86401, 2}, []int{0, 1, 2, 3}},
		{wait(86400), []int{4, 1, 86401, 2}, []int{0, 1, 2, 3}},
		{set(0, 0), []int{-1, 1, -1, 2}, []int{1, 3}},
		{set(0, 1), []int{0, 1, 0, 2}, []int{1, 3}},
	} {
		s = apply(t, m, s, test.in).State
		if got := rules.Broken(m, s); !slices.Equal(s.Over, test.over) || !slices.Equal(got, test.broken) {
			t.Errorf("after %v: %v, broken %v, want %v and %v", test.in, s.Over, got, test.over, test.broken)
		}
	}
}

// P7.1: which inputs are permitted, and their order.
func TestInputs(t *testing.T) {
	m := api.Model{Vars: []api.Var{{Size: 3, Start: 1, Sensor: true}, {Size: 2}, {Size: 1, Sensor: true}, {Size: 2, Sensor: true}}, Timers: 3}
	for _, test := range []struct {
		left []int
		want []api.Input
	}{
		{[]int{-1, -1, -1}, []api.Input{set(0, 0), set(0, 2), set(3, 1), wait(1)}},
		{[]int{0, -1, 5}, []api.Input{set(0, 0), set(0, 2), set(3, 1), expire(0)}},
		{[]int{1, 86400, 0}, []api.Input{set(0, 0), set(0, 2), set(3, 1), expire(2)}},
		{[]int{0, 0, 0}, []api.Input{set(0, 0), set(0, 2), set(3, 1), expire(0), expire(1), expire(2)}},
		{[]int{1, 2, -1}, []api.Input{set(0, 0), set(0, 2), set(3, 1), wait(1)}},
	} {
		s := rules.Start(m)
		s.Left = test.left
		if got := rules.Inputs(m, s); !slices.Equal(got, test.want) {
			t.Errorf("with %v left: %v, want %v", test.left, got, test.want)
		}
	}
	s := rules.Start(m)
	s.Left = []int{-1, 4, 7}
	for _, in := range []api.Input{set(0, 1), set(0, 3), set(0, -1), set(1, 1), set(2, 0), set(2, 1), set(4, 0), set(-1, 0), expire(0), expire(1), expire(3), expire(-1), wait(0), wait(-1), wait(5), wait(1 << 62), wait(-1 << 63)} {
		wantError(t, m, s, in, api.ErrState)
	}
	apply(t, m, s, wait(4))
	s.Left = []int{-1, -1, -1}
	wantError(t, m, s, wait(86401), api.ErrState)
	apply(t, m, s, wait(86400))
	apply(t, m, s, api.Input{Kind: api.InSet, Var: 3, Value: 1, Timer: 99, Seconds: -5})
	for _, kind := range []int{0, 4, -1, 1 << 62} {
		wantError(t, m, s, api.Input{Kind: kind, Var: 3, Value: 1, Seconds: 1}, api.ErrArg)
	}
}

// P7.1: comparisons.
func TestHolds(t *testing.T) {
	for value := range 4 {
		for bound := -1; bound < 5; bound++ {
			for op := -1; op < 9; op++ {
				a := api.Atom{Var: 1, Op: op, Value: bound}
				if got := rules.Holds(a, []int{9, value}); got != refHolds(op, value, bound) {
					t.Errorf("Holds(%v, %v) = %v", a, value, got)
				}
			}
		}
	}
	for _, v := range []int{-1, 2, 1 << 62, -1 << 63} {
		for op := api.OpEq; op <= api.OpGe; op++ {
			if rules.Holds(api.Atom{Var: v, Op: op}, []int{0, 0}) {
				t.Errorf("a comparison of the variable %v holds", v)
			}
		}
	}
	if rules.Holds(is(0, 0), nil) {
		t.Error("a comparison of no values holds")
	}
}

// P7.1: runs, and their errors in their order.
func TestRun(t *testing.T) {
	m := example()
	l := []api.Input{set(0, 1), wait(5), expire(0), set(0, 0)}
	steps, err := rules.Run(m, l)
	if err != api.OK || len(steps) != 4 {
		t.Fatalf("Run: %v, %v", steps, err)
	}
	s := rules.Start(m)
	for i, in := range l {
		want := apply(t, m, s, in)
		wantStep(t, steps[i], want)
		s = want.State
	}
	wrong := m
	wrong.Timers = -1
	turns := slices.Repeat([]api.Input{wait(1)}, 400)
	m.Rules = nil
	for _, test := range []struct {
		m   api.Model
		l   []api.Input
		err api.Errno
	}{
		{m, nil, api.OK}, {m, turns, api.OK}, {m, append(slices.Clone(turns), wait(1)), api.ErrLimit}, {m, append(slices.Clone(turns), expire(0)), api.ErrLimit}, {wrong, append(slices.Clone(turns), wait(1)), api.ErrArg}, {wrong, nil, api.ErrArg},
		{m, []api.Input{wait(1), expire(0), {}}, api.ErrState}, {m, []api.Input{wait(1), {}, expire(0)}, api.ErrArg}, {m, []api.Input{set(0, 1), set(0, 1)}, api.ErrState},
	} {
		got, err := rules.Run(test.m, test.l)
		if err != test.err || err == api.OK && len(got) != len(test.l) || err != api.OK && len(got) != 0 {
			t.Errorf("Run of %d inputs: %d steps, %v, want %v", len(test.l), len(got), err, test.err)
		}
	}
}

// P7.1: random runs are what the reference says.
func TestRandom(t *testing.T) {
	endless, clashes, deep := 0, 0, 0
	walks(1, 4000, 12, func(m maker, model api.Model, s api.State, in api.Input) {
		if !rules.Valid(model) {
			t.Fatalf("%+v is not well-formed", model)
		}
		if got := rules.Inputs(model, s); !slices.Equal(got, refInputs(model, s)) {
			t.Errorf("Inputs(%+v, %v) = %v, want %v", model, s, got, refInputs(model, s))
		}
		if other := m.input(model, s); !refPermitted(model, s, other) {
			wantError(t, model, s, other, api.ErrState)
		} else {
			wantStep(t, apply(t, model, s, other), refApply(model, s, other))
		}
		got, want := apply(t, model, s, in), refApply(model, s, in)
		wantStep(t, got, want)
		if want.Endless {
			endless++
		}
		if len(want.Clashes) > 0 {
			clashes++
		}
		if n := len(want.Firings); n > 0 && want.Firings[n-1].Wave > 1 {
			deep++
		}
	})
	if endless < 50 || clashes < 300 || deep < 300 {
		t.Errorf("%d endless cascades, %d with clashes and %d with some waves are too few", endless, clashes, deep)
	}
}

// P7.1: runs are the results of inputs, one after the other.
func TestRandomRuns(t *testing.T) {
	for i := range 2000 {
		m := maker{rand.New(rand.NewSource(int64(i)))}
		model := m.model()
		s := rules.Start(model)
		wantStep(t, api.Step{State: s}, api.Step{State: refStart(model)})
		var l []api.Input
		var want []api.Step
		for in, ok := m.permitted(model, s); ok && len(l) < 20; in, ok = m.permitted(model, s) {
			l = append(l, in)
			want = append(want, refApply(model, s, in))
			s = want[len(want)-1].State
		}
		got, err := rules.Run(model, l)
		if err != api.OK || len(got) != len(want) {
			t.Fatalf("Run(%+v, %v): %v", model, l, err)
		}
		for i := range got {
			wantStep(t, got[i], want[i])
		}
	}
}
