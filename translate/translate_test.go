package translate_test

import (
	"fmt"
	"math/rand"
	"slices"
	"testing"

	"domicile/api"
	"domicile/translate"
)

// is returns the comparison of a variable with a value.
func is(v, value int) api.Atom { return api.Atom{Var: v, Op: api.OpEq, Value: value} }

// example returns the model of the chapter's examples: a sensor, a lamp, a timer and a law.
func example() api.Model {
	return api.Model{
		Vars:   []api.Var{{Size: 2, Sensor: true}, {Size: 2}},
		Timers: 1,
		Rules: []api.Rule{
			{Timer: -1, Trigger: is(0, 1), Sets: []api.Set{{Var: 1, Value: 1}}, Starts: []api.Start{{Timer: 0, Seconds: 5}}},
			{Timer: 0, Sets: []api.Set{{Var: 1, Value: 0}}},
		},
		Laws: []api.Law{{Cond: []api.Atom{is(1, 1)}, Bound: 4}},
	}
}

// same reports whether two values are equal, where nil slices are empty ones.
func same(a, b any) bool { return fmt.Sprintf("%+v", a) == fmt.Sprintf("%+v", b) }

// build returns the image of a model, which has to exist.
func build(t *testing.T, m api.Model) api.Image {
	t.Helper()
	g, err := translate.Build(m)
	if err != api.OK {
		t.Fatalf("Build(%+v): %v", m, err)
	}
	return g
}

// P13.1: the examples of the chapter.
func TestExamples(t *testing.T) {
	if got := translate.Groups(example()); !same(got, [][]int{{0, 1, 2}}) {
		t.Errorf("the groups are %v", got)
	}
	g := build(t, example())
	if g.Automaton.Clocks != 2 || g.Automaton.Start != 0 || len(g.Places) != 5 {
		t.Errorf("the automaton is %+v", g)
	}
	free := api.Infinite
	places := []api.Place{
		{Values: []int{0, 0}, Timers: []int{0}, Laws: []bool{false}, Bad: -1},
		{Values: []int{1, 1}, Timers: []int{5}, Laws: []bool{true}, Bad: -1},
		{Values: []int{0, 1}, Timers: []int{5}, Laws: []bool{true}, Bad: -1},
		{Values: []int{1, 0}, Timers: []int{0}, Laws: []bool{false}, Bad: -1},
		{Bad: 0},
	}
	if !same(g.Places, places) {
		t.Errorf("the places are %+v", g.Places)
	}
	if want := []api.Loc{{Upper: []int{free, free}}, {Upper: []int{5, free}}, {Upper: []int{5, free}}, {Upper: []int{free, free}}, {Upper: []int{free, free}}}; !same(g.Automaton.Locs, want) {
		t.Errorf("the locations are %+v", g.Automaton.Locs)
	}
	edges := []api.Edge{
		{From: 0, To: 1, Label: 0, Resets: []int{0, 1}},
		{From: 1, To: 2, Label: 1},
		{From: 1, To: 3, Label: 2, Guards: []api.Guard{{Clock: 0, Least: 5}}},
		{From: 1, To: 4, Label: 3, Guards: []api.Guard{{Clock: 1, Least: 5}}},
	}
	if !same(g.Automaton.Edges[:4], edges) {
		t.Errorf("the edges are %+v", g.Automaton.Edges)
	}
	labels := []api.Label{
		{Input: api.Input{Kind: api.InSet, Var: 0, Value: 1}, Rules: []int{0}, Law: -1},
		{Input: api.Input{Kind: api.InSet, Var: 0, Value: 0}, Law: -1},
		{Input: api.Input{Kind: api.InExpire, Timer: 0}, Rules: []int{1}, Law: -1},
		{Law: 0},
	}
	if !same(g.Labels[:4], labels) {
		t.Errorf("the labels are %+v", g.Labels)
	}
}

// P13.1, M2: the errors of Part; P13.1, M1, M3: models that are not well-formed.
func TestInvalid(t *testing.T) {
	m := example()
	for _, group := range [][]int{{-1}, {3}, {0, 0}, {1, 0}, {0, 1, 3}, {0, 1, 2, 2}} {
		if p, err := translate.Part(m, group); err != api.ErrArg || !same(p, api.Model{}) {
			t.Errorf("Part(%v) = %+v, %v", group, p, err)
		}
	}
	bad := example()
	bad.Rules[0].Priority = 101
	part, errPart := translate.Part(bad, nil)
	image, errBuild := translate.Build(bad)
	if errPart != api.ErrArg || errBuild != api.ErrArg || !same(part, api.Model{}) || !same(image, api.Image{}) || len(translate.Groups(bad)) > 0 {
		t.Errorf("a model that is not well-formed has %+v, %v, %+v, %v", part, errPart, image, errBuild)
	}
	// A model that is not well-formed, and too large as well, has the first error.
	bad.Laws = slices.Repeat(bad.Laws, 20)
	if _, err := translate.Build(bad); err != api.ErrArg {
		t.Errorf("both errors: %v", err)
	}
	p, err := translate.Part(m, nil)
	if err != api.OK || len(p.Rules)+len(p.Laws) > 0 || p.Timers != 1 || len(p.Vars) != 2 || p.Vars[0].Sensor {
		t.Errorf("the model of no parts is %+v, %v", p, err)
	}
}

// P13.1, M1: what links parts, and what does not.
func TestLinks(t *testing.T) {
	sensor := func(v int) api.Var { return api.Var{Size: 2, Sensor: true, Device: v} }
	base := api.Model{Vars: []api.Var{sensor(0), sensor(1), {Size: 2}, {Size: 2}, {Size: 2}}, Timers: 3}
	when := func(v int, sets ...api.Set) api.Rule { return api.Rule{Timer: -1, Trigger: is(v, 1), Sets: sets} }
	put := func(v int) api.Set { return api.Set{Var: v, Value: 1} }
	guarded := when(1, put(3))
	guarded.Guard = []api.Atom{is(2, 0)}
	starts := when(0)
	starts.Starts = []api.Start{{Timer: 1, Seconds: 3}}
	stops := when(1)
	stops.Starts = []api.Start{{Timer: 1}}
	law := func(v int) api.Law { return api.Law{Cond: []api.Atom{is(v, 1)}} }
	for i, test := range []struct {
		rules []api.Rule
		laws  []api.Law
		want  [][]int
	}{
		{nil, nil, nil},
		{[]api.Rule{when(0, put(2)), when(0, put(3))}, nil, [][]int{{0}, {1}}},
		{[]api.Rule{when(0, put(2)), when(1, put(2))}, nil, [][]int{{0, 1}}},
		{[]api.Rule{when(0, put(2)), when(2, put(3))}, nil, [][]int{{0, 1}}},
		{[]api.Rule{when(0, put(2)), guarded}, nil, [][]int{{0, 1}}},
		{[]api.Rule{when(0), guarded}, nil, [][]int{{0}, {1}}},
		{[]api.Rule{when(0, put(2))}, []api.Law{law(2), law(0), law(3), law(3)}, [][]int{{0, 1}, {2}, {3}, {4}}},
		{[]api.Rule{starts, stops, when(0, put(2))}, nil, [][]int{{0, 1}, {2}}},
		{[]api.Rule{starts, {Timer: 1, Sets: []api.Set{put(2)}}, {Timer: 2}}, []api.Law{law(2)}, [][]int{{0, 1, 3}, {2}}},
		// A rule with a timer does not use the variable 0 of its zero comparison, although a rule sets it.
		{[]api.Rule{{Timer: 2}, when(1, put(0))}, nil, [][]int{{0}, {1}}},
		// The first and the last part are linked over the second one.
		{[]api.Rule{when(0, put(2)), when(1, put(4)), when(2, put(3))}, []api.Law{law(3), law(4)}, [][]int{{0, 2, 3}, {1, 4}}},
	} {
		m := base
		m.Rules, m.Laws = test.rules, test.laws
		if got := translate.Groups(m); !same(got, test.want) {
			t.Errorf("%d: the groups are %v, want %v", i, got, test.want)
		}
	}
}

// P13.1, M3: the limits for clocks, locations and edges.
func TestLimits(t *testing.T) {
	never := api.Atom{Var: 0, Op: api.OpGe, Value: 2}
	clocks := func(timers, laws int) api.Model {
		m := api.Model{Vars: []api.Var{{Size: 2, Sensor: true}}, Timers: 40}
		for timer := range timers {
			// Only every second timer is started with more than 0 seconds. The rules never fire, so that there are few places.
			m.Rules = append(m.Rules, api.Rule{Timer: -1, Trigger: never, Starts: []api.Start{{Timer: 2 * timer, Seconds: 1}, {Timer: 2*timer + 1}}})
		}
		m.Laws = slices.Repeat([]api.Law{{Cond: []api.Atom{never}}}, laws)
		return m
	}
	for _, test := range [][2]int{{12, 0}, {0, 12}, {5, 7}, {13, 0}, {0, 13}, {6, 7}} {
		m := clocks(test[0], test[1])
		want := api.OK
		if test[0]+test[1] > 12 {
			want = api.ErrLimit
		}
		if g, err := translate.Build(m); err != want || err != api.OK && !same(g, api.Image{}) || err == api.OK && g.Automaton.Clocks != 12 {
			t.Errorf("%v timers and laws: %v", test, err)
		}
	}
	sensors := func(sizes ...int) api.Model {
		var m api.Model
		for _, size := range sizes {
			m.Vars = append(m.Vars, api.Var{Size: size, Sensor: true})
		}
		return m
	}
	for _, test := range []struct {
		m           api.Model
		locs, edges int
	}{
		{sensors(10, 8, 5), 400, 8000},
		{sensors(4, 4, 5, 5), 400, 5600},
		{sensors(10, 10, 4), 400, 8400},
		{sensors(16, 5, 4), 320, 7040},
		{sensors(3, 3, 3, 3, 5), 405, 4860},
		{sensors(2, 2, 2, 2, 2, 2, 2, 2, 2), 512, 4608},
		{sensors(16, 16), 256, 7680},
		{sensors(1), 1, 0},
		{api.Model{}, 1, 0},
	} {
		g, err := translate.Build(test.m)
		if test.locs > 400 || test.edges > 8000 {
			if err != api.ErrLimit || !same(g, api.Image{}) {
				t.Errorf("%d locations and %d edges: %v", test.locs, test.edges, err)
			}
		} else if err != api.OK || len(g.Places) != test.locs || len(g.Automaton.Edges) != test.edges {
			t.Errorf("%d locations and %d edges: %v, %d", test.locs, test.edges, err, len(g.Automaton.Edges))
		}
	}
}

// P13.1: random models and lists of parts have the results of the reference.
func TestReference(t *testing.T) {
	m := maker{rand.New(rand.NewSource(1))}
	built, several := 0, 0
	for range 4000 {
		model := m.model(1+m.Intn(6), 2+m.Intn(5))
		groups := translate.Groups(model)
		if want := refGroups(model); !same(groups, want) {
			t.Errorf("Groups(%+v) = %v, want %v", model, groups, want)
		}
		if len(groups) > 2 {
			several++
		}
		var some []int
		for part := range len(model.Rules) + len(model.Laws) {
			if m.chance(2) {
				some = append(some, part)
			}
		}
		for _, group := range append(groups, some) {
			if got, err := translate.Part(model, group); err != api.OK || !same(got, refPart(model, group)) {
				t.Errorf("Part(%+v, %v) = %+v, %v", model, group, got, err)
			}
		}
		if m.chance(3) {
			got, err := translate.Build(model)
			want, errWant := refBuild(model)
			if err != errWant || !same(got, want) {
				t.Errorf("Build(%+v) = %+v, %v, want %+v, %v", model, got, err, want, errWant)
			}
			if err == api.OK && len(got.Places) > 5 {
				built++
			}
		}
	}
	if built < 300 || several < 300 {
		t.Errorf("%d automata, %d models with several groups", built, several)
	}
}

// P3: equal arguments have equal results, arguments are not changed, and results share nothing with them.
func TestIndependence(t *testing.T) {
	m := maker{rand.New(rand.NewSource(2))}
	for range 400 {
		model := m.model(1+m.Intn(4), 2)
		for i := range model.Rules {
			if len(model.Rules[i].Starts) > 0 && m.chance(2) {
				model.Rules[i].Guard = append(model.Rules[i].Guard, is(0, 0))
			}
		}
		before := fmt.Sprint(model)
		whole := make([]int, len(model.Rules)+len(model.Laws))
		for i := range whole {
			whole[i] = i
		}
		part, _ := translate.Part(model, whole)
		image, _ := translate.Build(model)
		groups := translate.Groups(model)
		kept := fmt.Sprint(part, image, groups)
		for i := range part.Rules {
			part.Rules[i].Priority = 7
			clear(part.Rules[i].Guard)
			clear(part.Rules[i].Sets)
			clear(part.Rules[i].Starts)
		}
		for _, l := range part.Laws {
			clear(l.Cond)
		}
		clear(part.Vars)
		clear(part.Over)
		for i := range image.Places {
			for k := range image.Places[i].Values {
				image.Places[i].Values[k] += 5
			}
			for k := range image.Places[i].Timers {
				image.Places[i].Timers[k] += 5
			}
		}
		for _, group := range groups {
			clear(group)
		}
		part, _ = translate.Part(model, whole)
		image, _ = translate.Build(model)
		if again := fmt.Sprint(part, image, translate.Groups(model)); again != kept || fmt.Sprint(model) != before {
			t.Fatalf("%s: %s, and then %s", before, kept, again)
		}
	}
}

// P1: no arguments make a function panic.
func TestExtremes(t *testing.T) {
	for _, x := range []int{-1 << 63, -2, -1, 0, 1, 2, 17, 41, 1<<63 - 1} {
		for _, m := range []api.Model{
			{Timers: x},
			{Vars: []api.Var{{Size: x, Sensor: true}}},
			{Vars: []api.Var{{Size: 2, Start: x, Sensor: true}}},
			{Vars: []api.Var{{Size: 2}}, Timers: 2, Rules: []api.Rule{{Timer: x, Trigger: is(x, x)}}},
			{Vars: []api.Var{{Size: 2}}, Timers: 2, Rules: []api.Rule{{Timer: x, Sets: []api.Set{{Var: x}}, Starts: []api.Start{{Timer: x, Seconds: x}}}}},
			{Vars: []api.Var{{Size: 2}}, Laws: []api.Law{{Cond: []api.Atom{is(x, 0)}, Bound: x}}, Over: []api.Pair{{Winner: x}}},
		} {
			translate.Groups(m)
			translate.Build(m)
			translate.Part(m, []int{x})
		}
	}
}
