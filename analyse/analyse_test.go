package analyse_test

import (
	"fmt"
	"math/rand"
	"slices"
	"testing"

	"domicile/analyse"
	"domicile/api"
	"domicile/rules"
	"domicile/translate"
)

// is returns the comparison of a variable with a value; when returns a rule that is triggered by it.
func is(v, value int) api.Atom { return api.Atom{Var: v, Op: api.OpEq, Value: value} }
func when(v, value int, sets ...api.Set) api.Rule {
	return api.Rule{Timer: -1, Trigger: is(v, value), Sets: sets}
}
func put(v, value int) api.Set   { return api.Set{Var: v, Value: value} }
func set(v, value int) api.Input { return api.Input{Kind: api.InSet, Var: v, Value: value} }
func wait(n int) api.Input       { return api.Input{Kind: api.InWait, Seconds: n} }

// example returns the model of the chapter's examples.
func example() api.Model {
	m := api.Model{
		Vars:  []api.Var{{Size: 2, Sensor: true}, {Size: 2}},
		Rules: []api.Rule{when(0, 1, put(1, 0)), when(0, 1, put(1, 1)), when(1, 1, put(1, 0))},
	}
	m.Rules[2].Guard = []api.Atom{is(0, 0)}
	return m
}

// lamp returns a model in which a timer switches a lamp off after 5 seconds, with a law of some seconds.
func lamp(bound int) api.Model {
	on := when(0, 1, put(1, 1))
	on.Guard = []api.Atom{is(1, 0)}
	on.Starts = []api.Start{{Timer: 0, Seconds: 5}}
	return api.Model{
		Vars: []api.Var{{Size: 2, Sensor: true}, {Size: 2}}, Timers: 1,
		Rules: []api.Rule{on, {Timer: 0, Sets: []api.Set{put(1, 0)}}},
		Laws:  []api.Law{{Cond: []api.Atom{is(1, 1)}, Bound: bound}},
	}
}

// finding returns a finding.
func finding(kind, first, second, v, law int, run ...api.Input) api.Finding {
	return api.Finding{Kind: kind, First: first, Second: second, Var: v, Law: law, Run: run}
}

// same reports whether two values are equal, where nil slices are empty ones.
func same(a, b any) bool { return fmt.Sprintf("%+v", a) == fmt.Sprintf("%+v", b) }

// P18.1: the examples of the chapter and of the document.
func TestExamples(t *testing.T) {
	chain := example()
	chain.Rules = []api.Rule{when(0, 1, put(1, 1)), when(1, 1, put(1, 0)), when(1, 0, put(1, 1))}
	late := lamp(86400)
	late.Rules = late.Rules[:1]
	late.Rules[0].Starts = nil
	two := example()
	two.Vars = append(two.Vars, api.Var{Size: 2, Sensor: true}, api.Var{Size: 2})
	two.Rules = append([]api.Rule{when(2, 1, put(3, 0))}, append(two.Rules, when(2, 1, put(3, 1)))...)
	two.Laws = []api.Law{{Cond: []api.Atom{is(1, 2-1)}, Bound: 1}, {Cond: []api.Atom{is(3, 0)}, Bound: 3}}
	for i, test := range []struct {
		m    api.Model
		want []api.Finding
	}{
		{example(), []api.Finding{finding(api.FindClash, 0, 1, 1, -1, set(0, 1)), finding(api.FindDead, 2, -1, -1, -1)}},
		{lamp(4), []api.Finding{finding(api.FindLaw, -1, -1, -1, 0, set(0, 1), wait(5))}},
		{lamp(5), nil},
		{chain, []api.Finding{finding(api.FindEndless, 0, -1, -1, -1, set(0, 1))}},
		{late, []api.Finding{finding(api.FindLaw, -1, -1, -1, 0, set(0, 1), wait(86400), wait(1))}},
		{two, []api.Finding{
			finding(api.FindClash, 0, 4, 3, -1, set(2, 1)), finding(api.FindClash, 1, 2, 1, -1, set(0, 1)),
			finding(api.FindLaw, -1, -1, -1, 1, wait(4)), finding(api.FindDead, 3, -1, -1, -1),
		}},
		{api.Model{}, nil},
	} {
		got, err := analyse.Findings(test.m)
		if err != api.OK || !same(got, test.want) {
			t.Errorf("%d: %+v, %v, want %+v", i, got, err, test.want)
		}
		for _, f := range got {
			if analyse.Holds(test.m, f) != (f.Kind != api.FindDead) {
				t.Errorf("%d: the run of %+v", i, f)
			}
		}
	}
}

// counter returns a model in which a timer of one second counts to (most + 1) * 16 - 1, and then two rules clash.
func counter(most int) api.Model {
	m := api.Model{Vars: []api.Var{{Size: 2, Sensor: true}, {Size: 16}, {Size: 16}, {Size: 3}}, Timers: 1}
	again := []api.Start{{Timer: 0, Seconds: 1}}
	m.Rules = []api.Rule{{Timer: -1, Trigger: is(0, 1), Guard: []api.Atom{is(1, 0), is(2, 0)}, Starts: again}}
	for i := range 15 {
		m.Rules = append(m.Rules, api.Rule{Timer: 0, Guard: []api.Atom{is(1, i)}, Sets: []api.Set{put(1, i+1)}, Starts: again})
	}
	for i := range most {
		m.Rules = append(m.Rules, api.Rule{Timer: 0, Guard: []api.Atom{is(1, 15), is(2, i)}, Sets: []api.Set{put(1, 0), put(2, i+1)}, Starts: again})
	}
	for i := range 2 {
		r := when(1, 15, put(3, 1+i))
		r.Guard = []api.Atom{is(2, most)}
		m.Rules = append(m.Rules, r)
	}
	return m
}

// P18.1: the errors, and their order.
func TestErrors(t *testing.T) {
	bad := example()
	bad.Rules[0].Priority = -1
	f := finding(api.FindClash, 0, 1, 1, -1, set(0, 1))
	if got, err := analyse.Findings(bad); err != api.ErrArg || len(got) > 0 || analyse.Holds(bad, f) || analyse.Shows(bad, f, api.Step{Clashes: []api.Clash{{First: 0, Second: 1, Var: 1}}}) {
		t.Errorf("a model that is not well-formed: %v, %v", got, err)
	}
	// The limits of Build and Explore, also if another group has findings.
	wide := example()
	for range 9 {
		v := len(wide.Vars)
		wide.Vars = append(wide.Vars, api.Var{Size: 2, Sensor: true})
		wide.Rules = append(wide.Rules, when(v, 1, put(1, 0)))
	}
	if got, err := analyse.Findings(wide); err != api.ErrLimit || len(got) > 0 {
		t.Errorf("a group with 1024 places: %v, %v", len(got), err)
	}
	wide.Rules[0].Priority = 101
	if _, err := analyse.Findings(wide); err != api.ErrArg {
		t.Errorf("both errors: %v", err)
	}
	// A run has twice as many inputs as the counter counts, and that which starts it.
	for _, test := range []struct {
		most int
		want api.Errno
	}{{0, api.OK}, {11, api.OK}, {12, api.ErrLimit}, {15, api.ErrLimit}} {
		got, err := analyse.Findings(counter(test.most))
		if err != test.want {
			t.Errorf("counting to %d: %v", 16*test.most+15, err)
		}
		if err == api.OK && (got[0].Kind != api.FindClash || len(got[0].Run) != 1+2*(16*test.most+15)) || err != api.OK && len(got) > 0 {
			t.Errorf("counting to %d: %+v", 16*test.most+15, got)
		}
	}
}

// P18.1, R1: a timer that starts itself again each second makes the path to a broken law long.
func TestLongPaths(t *testing.T) {
	again := []api.Start{{Timer: 0, Seconds: 1}}
	for _, test := range []struct {
		bound int
		want  api.Errno
	}{{1, api.OK}, {199, api.OK}, {200, api.ErrLimit}, {500, api.ErrLimit}} {
		m := lamp(test.bound)
		m.Rules[0].Starts = again
		m.Rules[1] = api.Rule{Timer: 0, Starts: again}
		got, err := analyse.Findings(m)
		// The run sets the sensor, and waits for a second before each expiry, and at the end.
		if err != test.want || err == api.OK && (len(got) != 1 || len(got[0].Run) != 2*test.bound+2 || !analyse.Holds(m, got[0])) || err != api.OK && len(got) > 0 {
			t.Errorf("the bound %d: %+v, %v", test.bound, got, err)
		}
	}
}

// P18.1, R2: what steps show, and findings that are none about the model.
func TestShows(t *testing.T) {
	m := example()
	m.Vars = append(m.Vars, api.Var{Size: 2, Sensor: true}, api.Var{Size: 2})
	m.Rules = append([]api.Rule{when(2, 1, put(3, 1))}, m.Rules...)
	m.Laws = []api.Law{{Cond: []api.Atom{is(3, 0)}, Bound: 2}, {Cond: []api.Atom{is(1, 1)}, Bound: 3}}
	clash := api.Step{Clashes: []api.Clash{{First: 0, Second: 2, Var: 1}, {First: 0, Second: 1, Var: 3}, {First: 0, Second: 3, Var: 1}}}
	endless := api.Step{Endless: true, Firings: []api.Firing{{Rule: 2}, {Rule: 1}, {Wave: 1, Rule: 2}}}
	law := api.Step{State: api.State{Over: []int{3}}}
	more := api.Step{State: api.State{Over: []int{4}}}
	for i, test := range []struct {
		f    api.Finding
		s    api.Step
		want bool
	}{
		{finding(api.FindClash, 1, 3, 1, -1), clash, true},
		{finding(api.FindClash, 1, 3, 1, 7), clash, true},
		{finding(api.FindClash, 1, 2, 3, -1), clash, true},
		{finding(api.FindClash, 1, 2, 1, -1), clash, false},
		{finding(api.FindClash, 3, 1, 1, -1), clash, false},
		{finding(api.FindClash, 0, 2, 1, -1), clash, false},
		{finding(api.FindClash, 0, 1, 3, -1), clash, false},
		{finding(api.FindClash, 1, 4, 1, -1), clash, false},
		// The law 1 is the part 5, with the position 3 in the group, but it is no rule.
		{finding(api.FindClash, 1, 5, 1, -1), clash, false},
		{finding(api.FindEndless, 5, -1, -1, -1), api.Step{Endless: true, Firings: []api.Firing{{Rule: 3}}}, false},
		{finding(api.FindEndless, 3, -1, -1, -1), api.Step{Endless: true, Firings: []api.Firing{{Rule: 2}}}, true},
		{finding(api.FindClash, -1, 3, 1, -1), clash, false},
		{finding(api.FindClash, 1, -1, 1, -1), clash, false},
		{finding(api.FindEndless, 2, -1, -1, -1), endless, true},
		{finding(api.FindEndless, 2, 9, 9, 9), endless, true},
		{finding(api.FindEndless, 3, -1, -1, -1), endless, false},
		{finding(api.FindEndless, 1, -1, -1, -1), endless, false},
		{finding(api.FindEndless, 0, -1, -1, -1), endless, false},
		{finding(api.FindEndless, 0, -1, -1, -1), api.Step{Endless: true}, false},
		{finding(api.FindEndless, 2, -1, -1, -1), api.Step{Firings: endless.Firings}, false},
		{finding(api.FindEndless, 4, -1, -1, -1), endless, false},
		{finding(api.FindLaw, -1, -1, -1, 0), law, true},
		{finding(api.FindLaw, -1, -1, -1, 1), law, false},
		{finding(api.FindLaw, -1, -1, -1, 1), more, true},
		{finding(api.FindLaw, 5, 5, 5, 1), more, true},
		{finding(api.FindLaw, -1, -1, -1, 2), more, false},
		{finding(api.FindLaw, -1, -1, -1, -1), more, false},
		{finding(api.FindLaw, 0, -1, -1, 1<<63-1), more, false},
		{finding(api.FindLaw, -1, -1, -1, 0), api.Step{}, false},
		{finding(api.FindDead, 1, -1, -1, -1), clash, false},
		{finding(0, 1, 3, 1, -1), clash, false},
		{finding(5, 1, 3, 1, 0), clash, false},
	} {
		if got := analyse.Shows(m, test.f, test.s); got != test.want {
			t.Errorf("%d: Shows(%+v, %+v) = %v", i, test.f, test.s, got)
		}
	}
}

// P18.1, R3: runs that lead to a finding, and others.
func TestHolds(t *testing.T) {
	m := lamp(4)
	clash := example()
	for i, test := range []struct {
		m    api.Model
		f    api.Finding
		want bool
	}{
		{m, finding(api.FindLaw, -1, -1, -1, 0, set(0, 1), wait(5)), true},
		{m, finding(api.FindLaw, -1, -1, -1, 0, set(0, 1), wait(2), wait(3)), true},
		{m, finding(api.FindLaw, -1, -1, -1, 0, set(0, 1), wait(4)), false},
		{m, finding(api.FindLaw, -1, -1, -1, 0, set(0, 1), wait(6)), false},
		{m, finding(api.FindLaw, -1, -1, -1, 0, set(0, 1), wait(5), set(0, 0)), false},
		{m, finding(api.FindLaw, -1, -1, -1, 0), false},
		{m, finding(api.FindLaw, -1, -1, -1, 1, set(0, 1), wait(5)), false},
		{m, finding(api.FindClash, 0, 1, 1, -1, set(0, 1)), false},
		{clash, finding(api.FindClash, 0, 1, 1, -1, set(0, 1)), true},
		{clash, finding(api.FindClash, 0, 1, 1, -1, wait(7), set(0, 1)), true},
		{clash, finding(api.FindClash, 0, 1, 1, -1, set(0, 1), set(0, 0), set(0, 1)), false},
		{clash, finding(api.FindClash, 0, 1, 1, -1, set(1, 1)), false},
		{clash, finding(api.FindClash, 0, 1, 1, -1, append(slices.Repeat([]api.Input{wait(1)}, 399), set(0, 1))...), true},
		{clash, finding(api.FindClash, 0, 1, 1, -1, append(slices.Repeat([]api.Input{wait(1)}, 400), set(0, 1))...), false},
		{clash, finding(api.FindDead, 2, -1, -1, -1, set(0, 1)), false},
		{clash, finding(9, 0, 1, 1, -1, set(0, 1)), false},
	} {
		if got := analyse.Holds(test.m, test.f); got != test.want {
			t.Errorf("%d: Holds(%+v) = %v", i, test.f, got)
		}
	}
}

// P18.1: random models have the findings of the reference.
func TestReference(t *testing.T) {
	m := maker{rand.New(rand.NewSource(1))}
	kinds := map[int]int{}
	for range 1500 {
		model := m.model(2+m.Intn(4), 2+m.Intn(4))
		got, err := analyse.Findings(model)
		want, ok := refFindings(model)
		if (err == api.OK) != ok || !ok && err != api.ErrLimit || !same(got, want) {
			t.Errorf("Findings(%+v) = %+v, %v, want %+v", model, got, err, want)
		}
		for _, f := range got {
			kinds[f.Kind]++
		}
	}
	for kind := api.FindClash; kind <= api.FindDead; kind++ {
		if kinds[kind] < 100 {
			t.Errorf("%d findings of the kind %d", kinds[kind], kind)
		}
	}
}

// P3: equal arguments have equal results, arguments are not changed, and results share nothing with them or with each other.
func TestIndependence(t *testing.T) {
	m := maker{rand.New(rand.NewSource(2))}
	for range 300 {
		model := m.model(2+m.Intn(3), 2+m.Intn(3))
		before := fmt.Sprint(model)
		first, _ := analyse.Findings(model)
		kept := fmt.Sprint(first)
		for i := range first {
			for k := range first[i].Run {
				first[i].Run[k].Var = 1000*i + k
			}
		}
		for i := range first {
			for k := range first[i].Run {
				if first[i].Run[k].Var != 1000*i+k {
					t.Fatal("two runs share memory")
				}
			}
		}
		if again, _ := analyse.Findings(model); fmt.Sprint(again) != kept || fmt.Sprint(model) != before {
			t.Fatalf("%s: %s, and then %v", before, kept, again)
		}
	}
}

// P1: no arguments make a function panic.
func TestExtremes(t *testing.T) {
	numbers := []int{-1 << 63, -2, -1, 0, 1, 2, 3, 41, 1<<63 - 1}
	for _, x := range numbers {
		for _, y := range numbers {
			for kind := range 6 {
				f := finding(kind, x, y, x, y, api.Input{Kind: y, Var: x, Value: y, Timer: x, Seconds: y})
				for _, m := range []api.Model{{}, {Timers: x}, lamp(x), lamp(4), example()} {
					analyse.Holds(m, f)
					analyse.Shows(m, f, api.Step{})
					analyse.Shows(m, f, api.Step{Endless: true, Clashes: []api.Clash{{First: x, Second: y, Var: x}}, Firings: []api.Firing{{Wave: x, Rule: y}}, State: api.State{Over: []int{y}}})
				}
			}
		}
	}
	for _, x := range numbers {
		analyse.Findings(lamp(x))
		analyse.Findings(api.Model{Timers: x, Rules: []api.Rule{{Timer: x}}})
	}
	if !rules.Valid(lamp(4)) || len(translate.Groups(lamp(4))) != 1 {
		t.Error("the lamp is not well-formed")
	}
}
