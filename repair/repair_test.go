package repair_test

import (
	"fmt"
	"math/rand"
	"slices"
	"testing"

	"domicile/api"
	"domicile/repair"
	"domicile/rules"
)

// is returns the comparison of a variable with a value.
func is(v, value int) api.Atom { return api.Atom{Var: v, Op: api.OpEq, Value: value} }

// example returns the model of the chapter's examples: when s is on, v becomes 1, and 2, and w becomes 1.
func example() api.Model {
	when := func(v, value int) api.Rule {
		return api.Rule{Priority: 5, Timer: -1, Trigger: is(0, 1), Sets: []api.Set{{Var: v, Value: value}}}
	}
	return api.Model{
		Vars:  []api.Var{{Size: 2, Sensor: true}, {Size: 3}, {Size: 2}},
		Rules: []api.Rule{when(1, 1), when(1, 2), when(2, 1)},
	}
}

// on is the input that s is on.
func on() api.Input { return api.Input{Kind: api.InSet, Var: 0, Value: 1} }

// same reports whether two values are equal, where nil slices are empty ones.
func same(a, b any) bool { return fmt.Sprintf("%+v", a) == fmt.Sprintf("%+v", b) }

// apply returns the step of an input in the first state.
func apply(t *testing.T, m api.Model, in api.Input) api.Step {
	t.Helper()
	step, err := rules.Apply(m, rules.Start(m), in)
	if err != api.OK {
		t.Fatalf("%+v: %v", m, err)
	}
	return step
}

// P20.1: the examples of the chapter.
func TestExamples(t *testing.T) {
	repaired, added, err := repair.Repair(example())
	if err != api.OK || !slices.Equal(added, []api.Pair{{Winner: 0, Loser: 1}}) || !slices.Equal(repaired.Over, added) {
		t.Errorf("the pairs are %v, %v, %v", added, repaired.Over, err)
	}
	m, err := repair.Prefer(example(), 1, 0)
	step := apply(t, m, on())
	if err != api.OK || step.State.Values[1] != 2 || len(step.Clashes) > 0 {
		t.Errorf("with the second rule preferred: %+v, %v", step, err)
	}
	if again, err := repair.Prefer(m, 0, 1); err != api.ErrTwice || !same(again, api.Model{}) {
		t.Errorf("the inverse: %+v, %v", again, err)
	}
	if again, err := repair.Prefer(m, 1, 0); err != api.ErrTwice || !same(again, api.Model{}) {
		t.Errorf("the same again: %+v, %v", again, err)
	}
	m, err = repair.Restrain(example(), 1, is(1, 2))
	step = apply(t, m, on())
	if err != api.OK || step.State.Values[1] != 1 || slices.Contains(step.Firings, api.Firing{Rule: 1}) {
		t.Errorf("with the second rule restrained: %+v, %v", step, err)
	}
}

// crowded returns a model with 30 rules, of which n pairs are in Over (at most 351), none with one of the first three.
func crowded(n int) api.Model {
	m := example()
	for len(m.Rules) < 30 {
		m.Rules = append(m.Rules, m.Rules[2])
	}
	for winner := range 30 {
		for loser := range winner {
			if len(m.Over) < n && loser > 2 {
				m.Over = append(m.Over, api.Pair{Winner: winner, Loser: loser})
			}
		}
	}
	return m
}

// P20.1, T1: the errors of Prefer, and their order.
func TestPrefer(t *testing.T) {
	bad := example()
	bad.Timers = 41
	full := crowded(351)
	full.Rules = slices.Concat(full.Rules, full.Rules, full.Rules)
	for loser := 40; len(full.Over) < 400; loser++ {
		full.Over = append(full.Over, api.Pair{Winner: 2, Loser: loser})
	}
	almost := full
	almost.Over = full.Over[:399]
	for i, test := range []struct {
		m             api.Model
		winner, loser int
		want          api.Errno
	}{
		{example(), 2, 0, api.OK},
		{example(), 0, 0, api.ErrArg},
		{example(), 0, 3, api.ErrArg},
		{example(), 3, 0, api.ErrArg},
		{example(), -1, 0, api.ErrArg},
		{example(), 0, -1, api.ErrArg},
		{bad, 0, 1, api.ErrArg},
		{almost, 0, 1, api.OK},
		{full, 0, 1, api.ErrLimit},
		{full, full.Over[7].Winner, full.Over[7].Loser, api.ErrTwice},
		{full, full.Over[7].Loser, full.Over[7].Winner, api.ErrTwice},
		{full, 5, 5, api.ErrArg},
		{full, 5, 90, api.ErrArg},
		{api.Model{}, 0, 1, api.ErrArg},
	} {
		got, err := repair.Prefer(test.m, test.winner, test.loser)
		want, errWant := refPrefer(test.m, test.winner, test.loser)
		if err != test.want || errWant != test.want || !same(got, want) {
			t.Errorf("%d: %v, want %v", i, err, test.want)
		}
	}
	if len(full.Over) != 400 || !rules.Valid(full) {
		t.Errorf("the model has %d pairs", len(full.Over))
	}
}

// P20.1, T2: the errors of Restrain, and their order.
func TestRestrain(t *testing.T) {
	bad := example()
	bad.Vars[0].Start = 2
	full := example()
	full.Rules[1].Guard = slices.Repeat([]api.Atom{is(0, 1)}, 8)
	almost := example()
	almost.Rules[1].Guard = slices.Repeat([]api.Atom{is(0, 1)}, 7)
	for i, test := range []struct {
		m    api.Model
		rule int
		a    api.Atom
		want api.Errno
	}{
		{example(), 1, is(1, 2), api.OK},
		{example(), 1, is(1, 3), api.ErrArg},
		{example(), 1, api.Atom{Var: 1, Op: api.OpNe, Value: 3}, api.ErrArg},
		{example(), 1, api.Atom{Var: 1, Op: api.OpLt, Value: 3}, api.OK},
		{example(), 1, api.Atom{Var: 1, Op: api.OpGe, Value: 4}, api.ErrArg},
		{example(), 1, api.Atom{Var: 1, Op: api.OpGe, Value: -1}, api.ErrArg},
		{example(), 1, api.Atom{Var: 1, Op: 0}, api.ErrArg},
		{example(), 1, api.Atom{}, api.ErrArg},
		{example(), 1, api.Atom{Var: 1, Op: 7}, api.ErrArg},
		{example(), 1, is(3, 0), api.ErrArg},
		{example(), 1, is(-1, 0), api.ErrArg},
		{example(), 3, is(1, 0), api.ErrArg},
		{example(), -1, is(1, 0), api.ErrArg},
		{bad, 1, is(1, 0), api.ErrArg},
		{almost, 1, is(1, 0), api.OK},
		{full, 1, is(1, 0), api.ErrLimit},
		{full, 1, is(3, 0), api.ErrArg},
		{full, 0, is(1, 0), api.OK},
	} {
		got, err := repair.Restrain(test.m, test.rule, test.a)
		want, errWant := refRestrain(test.m, test.rule, test.a)
		if err != test.want || errWant != test.want || !same(got, want) {
			t.Errorf("%d: %v, want %v", i, err, test.want)
		}
	}
	if m, err := repair.Restrain(api.Model{Vars: []api.Var{{Size: 1}}, Timers: 1, Rules: []api.Rule{{}}}, 0, is(0, 0)); err != api.OK || len(m.Rules[0].Guard) != 1 {
		t.Errorf("a rule with a timer: %+v, %v", m, err)
	}
}

// wantRepair checks the result of Repair.
func wantRepair(t *testing.T, m api.Model, added []api.Pair, err api.Errno) {
	t.Helper()
	got, pairs, e := repair.Repair(m)
	want := api.Model{}
	if err == api.OK {
		want = m
		want.Over = slices.Concat(m.Over, added)
	}
	if e != err || !slices.Equal(pairs, added) || !same(got, want) {
		t.Errorf("Repair has %v, %v, want %v, %v", pairs, e, added, err)
	}
}

// P20.1, T3: the errors of Repair, and pairs that are there already or found several times.
func TestRepair(t *testing.T) {
	bad := example()
	bad.Timers = -1
	wantRepair(t, bad, nil, api.ErrArg)
	wide := example()
	for range 9 {
		wide.Vars = append(wide.Vars, api.Var{Size: 2, Sensor: true})
		wide.Rules = append(wide.Rules, api.Rule{Timer: -1, Trigger: is(len(wide.Vars)-1, 1), Sets: []api.Set{{Var: 1, Value: 1}}})
	}
	wantRepair(t, wide, nil, api.ErrLimit)
	// Two rules that clash about two variables need one pair.
	twice := example()
	twice.Rules[0].Sets = []api.Set{{Var: 1, Value: 1}, {Var: 2, Value: 0}}
	twice.Rules[1].Sets = []api.Set{{Var: 1, Value: 2}, {Var: 2, Value: 1}}
	wantRepair(t, twice, []api.Pair{{Winner: 0, Loser: 1}, {Winner: 0, Loser: 2}}, api.OK)
	twice.Over = []api.Pair{{Winner: 0, Loser: 1}}
	wantRepair(t, twice, []api.Pair{{Winner: 0, Loser: 2}}, api.OK)
	// The other way round, the rule 2 agrees with the rule that wins.
	twice.Over = []api.Pair{{Winner: 1, Loser: 0}}
	wantRepair(t, twice, nil, api.OK)
	safe := example()
	safe.Rules = safe.Rules[1:]
	wantRepair(t, safe, nil, api.OK)
	wantRepair(t, api.Model{}, nil, api.OK)
	// There are too many pairs only if one is added.
	full := crowded(351)
	for len(full.Rules) < 80 {
		full.Rules = append(full.Rules, full.Rules[2])
	}
	for loser := 30; len(full.Over) < 399; loser++ {
		full.Over = append(full.Over, api.Pair{Winner: 2, Loser: loser})
	}
	wantRepair(t, full, []api.Pair{{Winner: 0, Loser: 1}}, api.OK)
	full.Over = append(full.Over, api.Pair{Winner: 79, Loser: 78})
	wantRepair(t, full, nil, api.ErrLimit)
	full.Over[0] = api.Pair{Winner: 1, Loser: 0}
	wantRepair(t, full, nil, api.OK)
}

// P20.1: random models have the results of the reference.
func TestReference(t *testing.T) {
	m := maker{rand.New(rand.NewSource(1))}
	repaired, results := 0, map[api.Errno]int{}
	for range 1500 {
		model := m.model(2+m.Intn(3), 2+m.Intn(3))
		winner, loser, rule := m.Intn(len(model.Rules)+2)-1, m.Intn(len(model.Rules)+2)-1, m.Intn(len(model.Rules)+2)-1
		a := api.Atom{Var: m.Intn(len(model.Vars)+2) - 1, Op: m.Intn(8), Value: m.Intn(6) - 1}
		for range m.Intn(9) {
			if len(model.Rules) > 0 {
				r := &model.Rules[m.Intn(len(model.Rules))]
				r.Guard = append(r.Guard[:min(7, len(r.Guard))], m.atom(model))
			}
		}
		got, err := repair.Prefer(model, winner, loser)
		if want, errWant := refPrefer(model, winner, loser); err != errWant || !same(got, want) {
			t.Errorf("Prefer(%+v, %v, %v) = %+v, %v", model, winner, loser, got, err)
		}
		results[err]++
		got, err = repair.Restrain(model, rule, a)
		if want, errWant := refRestrain(model, rule, a); err != errWant || !same(got, want) {
			t.Errorf("Restrain(%+v, %v, %v) = %+v, %v", model, rule, a, got, err)
		}
		results[err]++
		got, added, err := repair.Repair(model)
		if want, pairs, errWant := refRepair(model); err != errWant || !same(got, want) || !slices.Equal(added, pairs) {
			t.Errorf("Repair(%+v) = %+v, %v, %v", model, got, added, err)
		}
		if len(added) > 0 {
			repaired++
		}
	}
	if repaired < 60 || results[api.OK] < 300 || results[api.ErrArg] < 300 || results[api.ErrTwice] < 20 {
		t.Errorf("%d models were repaired, the results are %v", repaired, results)
	}
}

// P3: equal arguments have equal results, arguments are not changed, and results share nothing with them or with each other.
func TestIndependence(t *testing.T) {
	m := maker{rand.New(rand.NewSource(2))}
	for range 300 {
		model := m.model(2+m.Intn(3), 2)
		if len(model.Rules) < 2 {
			continue
		}
		model.Over = nil
		model.Rules[0].Guard = append(make([]api.Atom, 0, 20), model.Rules[0].Guard...)
		before := fmt.Sprint(model)
		results := func() ([]api.Model, []api.Pair) {
			preferred, _ := repair.Prefer(model, 0, 1)
			restrained, _ := repair.Restrain(model, 0, is(0, 0))
			repaired, added, _ := repair.Repair(model)
			return []api.Model{preferred, restrained, repaired}, added
		}
		models, added := results()
		kept := fmt.Sprint(models, added)
		clear(models[2].Over)
		if _, again := results(); !slices.Equal(added, again) {
			t.Fatal("the pairs share memory with the model")
		}
		for _, n := range models {
			clear(n.Vars)
			for _, r := range n.Rules {
				clear(r.Guard)
				clear(r.Sets)
				clear(r.Starts)
			}
			for _, l := range n.Laws {
				clear(l.Cond)
			}
			clear(n.Over)
		}
		if models, added := results(); fmt.Sprint(models, added) != kept || fmt.Sprint(model) != before {
			t.Fatalf("%s: %s, and then %v, %v", before, kept, models, added)
		}
	}
}

// P1: no arguments make a function panic.
func TestExtremes(t *testing.T) {
	numbers := []int{-1 << 63, -2, -1, 0, 1, 2, 3, 41, 1<<63 - 1}
	for _, x := range numbers {
		for _, y := range numbers {
			for _, m := range []api.Model{{}, {Timers: x}, example(), {Rules: []api.Rule{{Timer: x}}}, {Over: []api.Pair{{Winner: x, Loser: y}}}} {
				repair.Prefer(m, x, y)
				repair.Restrain(m, x, is(y, x))
				repair.Restrain(m, 0, api.Atom{Var: x, Op: y, Value: y})
				repair.Repair(m)
			}
		}
	}
}
