package cause_test

import (
	"fmt"
	"math/rand"
	"slices"
	"testing"

	"domicile/analyse"
	"domicile/api"
	"domicile/cause"
)

// is returns the comparison of a variable with a value; when returns a rule that is triggered by it and sets a variable.
func is(v, value int) api.Atom { return api.Atom{Var: v, Op: api.OpEq, Value: value} }
func when(v, value, other, to int) api.Rule {
	return api.Rule{Timer: -1, Trigger: is(v, value), Sets: []api.Set{{Var: other, Value: to}}}
}

// The variables of the example.
const (
	m = iota
	a
	b
	c
	l
)

// example returns the model of the chapter's examples.
func example() api.Model {
	model := api.Model{Rules: []api.Rule{when(m, 1, a, 1), when(a, 1, l, 1), when(m, 1, b, 1), when(b, 1, l, 0), when(m, 1, c, 1)}}
	for i := range 5 {
		model.Vars = append(model.Vars, api.Var{Size: 2, Sensor: i == m})
	}
	return model
}

// finding returns a finding.
func finding(kind, first, second, v, law int) api.Finding {
	return api.Finding{Kind: kind, First: first, Second: second, Var: v, Law: law}
}

// same reports whether two values are equal, where nil slices are empty ones.
func same(a, b any) bool { return fmt.Sprintf("%+v", a) == fmt.Sprintf("%+v", b) }

// want checks the smallest cause of a finding.
func want(t *testing.T, model api.Model, f api.Finding, set []int, err api.Errno) {
	t.Helper()
	if got, e := cause.Smallest(model, f); !slices.Equal(got, set) || e != err {
		t.Errorf("Smallest(%+v) = %v, %v, want %v, %v", f, got, e, set, err)
	}
}

// P19.1: the examples of the chapter.
func TestExamples(t *testing.T) {
	want(t, example(), finding(api.FindClash, 1, 3, l, -1), []int{0, 1, 2, 3}, api.OK)
	want(t, example(), finding(api.FindClash, 0, 1, l, -1), nil, api.ErrNone)
	want(t, example(), finding(api.FindDead, 0, -1, -1, -1), nil, api.ErrArg)
	// The run of a finding does not matter.
	f := finding(api.FindClash, 1, 3, l, 9)
	f.Run = []api.Input{{Kind: 77}}
	want(t, example(), f, []int{0, 1, 2, 3}, api.OK)
}

// P19.1, S2: the causes of endless chains and broken laws.
func TestKinds(t *testing.T) {
	chain := example()
	chain.Rules = append(chain.Rules, when(l, 0, l, 1), when(l, 1, l, 0))
	// The rules 5 and 6 switch l for ever, once one of the others has switched it on.
	want(t, chain, finding(api.FindEndless, 0, -1, -1, -1), []int{0, 1, 5, 6}, api.OK)
	want(t, chain, finding(api.FindEndless, 6, 7, 7, 7), []int{0, 1, 5, 6}, api.OK)
	want(t, chain, finding(api.FindEndless, 4, -1, -1, -1), nil, api.ErrNone)
	laws := example()
	laws.Laws = []api.Law{{Cond: []api.Atom{is(l, 1)}, Bound: 3}, {Cond: []api.Atom{is(m, 1)}}, {Cond: []api.Atom{is(c, 0)}, Bound: 7}, {Cond: []api.Atom{is(l, 1), is(l, 0)}}}
	want(t, laws, finding(api.FindLaw, -1, -1, -1, 0), []int{0, 1}, api.OK)
	want(t, laws, finding(api.FindLaw, 1, 3, l, 1), nil, api.OK)
	want(t, laws, finding(api.FindLaw, -1, -1, -1, 2), nil, api.OK)
	want(t, laws, finding(api.FindLaw, -1, -1, -1, 3), nil, api.ErrNone)
	// A preference of the model counts for the model with some rules as well. With all rules, the rule 2 wins against the rule 0, so that the rules 0 and 3 do not clash, although they do without it.
	over := example()
	over.Rules = []api.Rule{when(m, 1, l, 1), when(m, 1, a, 1), when(m, 1, l, 0), when(m, 1, l, 0)}
	over.Over = []api.Pair{{Winner: 2, Loser: 0}}
	want(t, over, finding(api.FindClash, 0, 2, l, -1), nil, api.ErrNone)
	want(t, over, finding(api.FindClash, 0, 3, l, -1), nil, api.ErrNone)
	over.Over[0] = api.Pair{Winner: 0, Loser: 2}
	want(t, over, finding(api.FindClash, 0, 3, l, -1), []int{0, 3}, api.OK)
}

// P19.1: the errors, and their order.
func TestErrors(t *testing.T) {
	clash := finding(api.FindClash, 1, 3, l, -1)
	bad := example()
	bad.Rules[4].Priority = 101
	want(t, bad, clash, nil, api.ErrArg)
	for _, f := range []api.Finding{
		finding(0, 1, 3, l, -1), finding(5, 1, 3, l, -1), finding(api.FindDead, 1, 3, l, 0),
		finding(api.FindClash, -1, 3, l, -1), finding(api.FindClash, 5, 3, l, -1), finding(api.FindClash, 1, 5, l, -1), finding(api.FindClash, 1, -1, l, -1),
		finding(api.FindEndless, -1, 0, 0, 0), finding(api.FindEndless, 5, 0, 0, 0), finding(api.FindEndless, 1<<63-1, 0, 0, 0),
		finding(api.FindLaw, 0, 0, 0, 0), finding(api.FindLaw, 0, 0, 0, -1), finding(api.FindLaw, 0, 0, 0, 1<<63-1),
	} {
		want(t, example(), f, nil, api.ErrArg)
	}
	// The rules have to be in this order, about this variable, and of one group.
	want(t, example(), finding(api.FindClash, 3, 1, l, -1), nil, api.ErrNone)
	want(t, example(), finding(api.FindClash, 1, 3, a, -1), nil, api.ErrNone)
	want(t, example(), finding(api.FindClash, 1, 3, 99, -1), nil, api.ErrNone)
	want(t, example(), finding(api.FindClash, 1, 4, l, -1), nil, api.ErrNone)
	want(t, example(), finding(api.FindClash, 1, 1, l, -1), nil, api.ErrNone)
	large := example()
	for n := 4; n < 12; n++ {
		// The group of the clash has n rules.
		if n == 10 {
			want(t, large, finding(api.FindLaw, 0, 0, 0, 0), nil, api.ErrArg)
		}
		if n <= 10 {
			want(t, large, clash, []int{0, 1, 2, 3}, api.OK)
		} else {
			want(t, large, clash, nil, api.ErrLimit)
			want(t, large, finding(api.FindClash, 3, 1, l, -1), nil, api.ErrLimit)
			want(t, large, finding(api.FindClash, 4, 1, l, -1), nil, api.ErrNone)
		}
		r := when(m, 0, l, 1)
		r.Priority = 1
		large.Rules = append(large.Rules, r)
	}
	// The analysis of the model with the rules of the group has a limit, although it is another group that exceeds it.
	wide := example()
	wide.Laws = []api.Law{{}}
	for range 8 {
		v := len(wide.Vars)
		wide.Vars = append(wide.Vars, api.Var{Size: 16, Sensor: true})
		wide.Laws[0].Cond = append(wide.Laws[0].Cond, is(v, 1))
	}
	want(t, wide, clash, nil, api.ErrLimit)
	want(t, wide, finding(api.FindClash, 3, 1, l, -1), nil, api.ErrLimit)
	// A rule outside of the group can exceed it as well: it does not matter.
	apart := example()
	apart.Vars = append(apart.Vars, api.Var{Size: 2})
	for range 9 {
		v := len(apart.Vars)
		apart.Vars = append(apart.Vars, api.Var{Size: 16, Sensor: true})
		apart.Rules = append(apart.Rules, when(v, 1, 5, 1))
	}
	if _, err := analyse.Findings(apart); err != api.ErrLimit {
		t.Fatalf("the whole model: %v", err)
	}
	want(t, apart, clash, []int{0, 1, 2, 3}, api.OK)
	want(t, apart, finding(api.FindEndless, 6, 0, 0, 0), nil, api.ErrLimit)
}

// P19.1, S1: Restrict, and its errors.
func TestRestrict(t *testing.T) {
	model := example()
	model.Laws = []api.Law{{Cond: []api.Atom{is(l, 1)}, Bound: 3}}
	model.Over = []api.Pair{{Winner: 3, Loser: 1}, {Winner: 0, Loser: 4}, {Winner: 4, Loser: 3}}
	got, err := cause.Restrict(model, []int{1, 3, 4})
	expected := api.Model{Vars: model.Vars, Rules: []api.Rule{model.Rules[1], model.Rules[3], model.Rules[4]}, Laws: model.Laws, Over: []api.Pair{{Winner: 1, Loser: 0}, {Winner: 2, Loser: 1}}}
	if err != api.OK || !same(got, expected) {
		t.Errorf("the model with some rules is %+v, %v", got, err)
	}
	got, err = cause.Restrict(model, nil)
	if err != api.OK || !same(got, api.Model{Vars: model.Vars, Laws: model.Laws}) {
		t.Errorf("the model without rules is %+v, %v", got, err)
	}
	for _, set := range [][]int{{-1}, {5}, {1, 1}, {2, 1}, {0, 1, 2, 3, 4, 5}} {
		if got, err := cause.Restrict(model, set); err != api.ErrArg || !same(got, api.Model{}) {
			t.Errorf("Restrict(%v) = %+v, %v", set, got, err)
		}
	}
	model.Timers = -1
	if got, err := cause.Restrict(model, nil); err != api.ErrArg || !same(got, api.Model{}) {
		t.Errorf("a model that is not well-formed: %+v, %v", got, err)
	}
}

// P19.1: random models and findings have the results of the reference.
func TestReference(t *testing.T) {
	x := maker{rand.New(rand.NewSource(1))}
	results := map[api.Errno]int{}
	for range 500 {
		model := x.model(2+x.Intn(3), 2+x.Intn(3))
		var set []int
		for i := range model.Rules {
			if x.chance(2) {
				set = append(set, i)
			}
		}
		if got, err := cause.Restrict(model, set); err != api.OK || !same(got, refRestrict(model, set)) {
			t.Errorf("Restrict(%+v, %v) = %+v, %v", model, set, got, err)
		}
		list, _ := analyse.Findings(model)
		if len(model.Rules) > 1 {
			list = append(list, finding(api.FindClash, x.Intn(len(model.Rules)), x.Intn(len(model.Rules)), x.Intn(len(model.Vars)), -1))
			list = append(list, finding(api.FindEndless, x.Intn(len(model.Rules)), -1, -1, -1))
		}
		for _, f := range list {
			if f.Kind == api.FindDead {
				continue
			}
			expected, errExpected := refSmallest(model, f)
			got, err := cause.Smallest(model, f)
			if !slices.Equal(got, expected) || err != errExpected {
				t.Errorf("Smallest(%+v, %+v) = %v, %v, want %v, %v", model, f, got, err, expected, errExpected)
			}
			results[err]++
		}
	}
	if results[api.OK] < 200 || results[api.ErrNone] < 200 {
		t.Errorf("the results are %v", results)
	}
}

// P3: equal arguments have equal results, arguments are not changed, and results share nothing with them.
func TestIndependence(t *testing.T) {
	x := maker{rand.New(rand.NewSource(2))}
	for range 100 {
		model := x.model(2+x.Intn(3), 2+x.Intn(3))
		list, _ := analyse.Findings(model)
		all := make([]int, len(model.Rules))
		for i := range all {
			all[i] = i
		}
		before := fmt.Sprint(model, list, all)
		part, _ := cause.Restrict(model, all)
		kept := fmt.Sprint(part)
		clear(part.Vars)
		for _, r := range part.Rules {
			clear(r.Guard)
			clear(r.Sets)
			clear(r.Starts)
		}
		for _, law := range part.Laws {
			clear(law.Cond)
		}
		clear(part.Over)
		if again, _ := cause.Restrict(model, all); fmt.Sprint(again) != kept || fmt.Sprint(model, list, all) != before {
			t.Fatalf("%s: %s, and then %v", before, kept, again)
		}
		for _, f := range list {
			first, _ := cause.Smallest(model, f)
			kept := fmt.Sprint(first)
			clear(first)
			if again, _ := cause.Smallest(model, f); fmt.Sprint(again) != kept || fmt.Sprint(model, list, all) != before {
				t.Fatalf("%s: %s, and then %v", before, kept, again)
			}
		}
	}
}

// P1: no arguments make a function panic.
func TestExtremes(t *testing.T) {
	numbers := []int{-1 << 63, -2, -1, 0, 1, 2, 3, 41, 1<<63 - 1}
	for _, x := range numbers {
		for _, y := range numbers {
			cause.Restrict(example(), []int{x, y})
			for kind := range 6 {
				f := finding(kind, x, y, x, y)
				cause.Smallest(example(), f)
				cause.Smallest(api.Model{}, f)
				cause.Smallest(api.Model{Timers: x, Laws: []api.Law{{Bound: y}}}, f)
				cause.Smallest(api.Model{Vars: []api.Var{{Size: 2}}, Laws: []api.Law{{Cond: []api.Atom{is(0, 0)}}}}, f)
			}
		}
	}
}
