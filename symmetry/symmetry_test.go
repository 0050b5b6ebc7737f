package symmetry_test

import (
	"fmt"
	"math/rand"
	"slices"
	"testing"

	"domicile/api"
	"domicile/rules"
	"domicile/symmetry"
)

// is returns the comparison of a variable with a value.
func is(v, value int) api.Atom { return api.Atom{Var: v, Op: api.OpEq, Value: value} }

// example returns the model of the chapter's examples: two sensors switch on a lamp.
func example() api.Model {
	when := func(v int) api.Rule {
		return api.Rule{Timer: -1, Trigger: is(v, 1), Sets: []api.Set{{Var: 2, Value: 1}}}
	}
	return api.Model{
		Vars:  []api.Var{{Size: 2, Sensor: true, Device: 0}, {Size: 2, Sensor: true, Device: 1}, {Size: 2, Device: 2}},
		Rules: []api.Rule{when(0), when(1)},
	}
}

// same reports whether two values are equal, where nil slices are empty ones.
func same(a, b any) bool { return fmt.Sprintf("%+v", a) == fmt.Sprintf("%+v", b) }

// P16.1: the examples of the chapter.
func TestExamples(t *testing.T) {
	m := example()
	if got := symmetry.Classes(m); !same(got, [][]int{{0, 1}, {2}}) {
		t.Errorf("the classes are %v", got)
	}
	if got := symmetry.Canon(m, api.State{Values: []int{1, 0, 0}}); !same(got, api.State{Values: []int{0, 1, 0}}) {
		t.Errorf("the representative is %v", got)
	}
	m.Rules[0].Guard = []api.Atom{is(2, 0)}
	if got := symmetry.Classes(m); !same(got, [][]int{{0}, {1}, {2}}) {
		t.Errorf("with a guard the classes are %v", got)
	}
}

// P16.1, P1: the errors of Exchange, and their order.
func TestErrors(t *testing.T) {
	bad := example()
	bad.Rules[0].Priority = -1
	twice := example()
	twice.Vars = append(twice.Vars, api.Var{Size: 2, Device: 0})
	for i, test := range []struct {
		m    api.Model
		x, y int
		want api.Errno
	}{
		{example(), 0, 1, api.OK},
		{example(), 1, 1, api.OK},
		{example(), 0, 2, api.ErrType},
		{example(), 2, 0, api.ErrType},
		{example(), 0, 3, api.ErrArg},
		{example(), 3, 0, api.ErrArg},
		{example(), -1, 0, api.ErrArg},
		{example(), 0, -1 << 63, api.ErrArg},
		{bad, 0, 1, api.ErrArg},
		{bad, 0, 2, api.ErrArg},
		{twice, 0, 1, api.ErrType},
		{twice, 0, 0, api.ErrType},
		{twice, 1, 1, api.OK},
		{api.Model{}, 0, 0, api.ErrArg},
	} {
		if got, err := symmetry.Exchange(test.m, test.x, test.y); err != test.want || err != api.OK && !same(got, api.Model{}) {
			t.Errorf("%d: %+v, %v, want %v", i, got, err, test.want)
		}
	}
	s := rules.Start(example())
	for _, wrong := range []api.State{{}, {Values: []int{0, 0}}, {Values: []int{0, 2, 0}}, {Values: []int{1, 0, 0}, Left: []int{0}}, {Values: []int{1, 0, 0}, Over: []int{0}}} {
		if got := symmetry.Canon(example(), wrong); !same(got, api.State{}) {
			t.Errorf("the state %v has the representative %v", wrong, got)
		}
	}
	if got := symmetry.Canon(bad, s); !same(got, api.State{}) || len(symmetry.Classes(bad)) > 0 || symmetry.Equal(bad, bad) {
		t.Errorf("a model that is not well-formed has %v, %v", got, symmetry.Classes(bad))
	}
	over := example()
	over.Over = []api.Pair{{Winner: 0, Loser: 1}}
	s.Values[0] = 1
	if got := symmetry.Canon(over, s); !same(got, s) || len(symmetry.Classes(over)) > 0 || symmetry.Equal(over, over) || symmetry.Equal(over, example()) || symmetry.Equal(example(), over) {
		t.Errorf("a model with preferences: %v, %v", got, symmetry.Classes(over))
	}
	if got := symmetry.Canon(over, api.State{}); !same(got, api.State{}) {
		t.Errorf("a wrong state of a model with preferences: %v", got)
	}
	if got, err := symmetry.Exchange(over, 0, 1); err != api.OK || !same(got.Over, over.Over) {
		t.Errorf("Exchange keeps preferences: %v, %v", got, err)
	}
}

// P16.1: each field that has to be the same in devices that fit, and in models that are equal.
func TestFields(t *testing.T) {
	for i, change := range []func(v *api.Var){
		func(v *api.Var) { v.Size = 3 }, func(v *api.Var) { v.Start = 1 }, func(v *api.Var) { v.Fallback = 1 },
		func(v *api.Var) { v.Sensor = false }, func(v *api.Var) { v.Private = true }, func(v *api.Var) { v.Shown = true }, func(v *api.Var) { v.Attr = 1 },
	} {
		m := example()
		change(&m.Vars[1])
		if _, err := symmetry.Exchange(m, 0, 1); err != api.ErrType || len(symmetry.Classes(m)) != 3 || symmetry.Equal(m, example()) || !symmetry.Equal(m, m) {
			t.Errorf("%d: %v", i, err)
		}
		change(&m.Vars[0])
		if _, err := symmetry.Exchange(m, 0, 1); err != api.OK || len(symmetry.Classes(m)) != 2 {
			t.Errorf("%d: %v", i, err)
		}
	}
	for i, change := range []func(m *api.Model){
		func(m *api.Model) { m.Timers = 1 },
		func(m *api.Model) { m.Vars[1].Device = 5 },
		func(m *api.Model) { m.Vars = append(m.Vars, api.Var{Size: 1}) },
		func(m *api.Model) { m.Rules[0].Priority = 1 },
		func(m *api.Model) { m.Rules[0].Trigger.Op = api.OpGe },
		func(m *api.Model) { m.Rules[0].Trigger.Value = 0 },
		func(m *api.Model) { m.Rules[0].Trigger.Var = 2 },
		func(m *api.Model) { m.Rules[0].Sets[0].Value = 0 },
		func(m *api.Model) { m.Rules[0].Sets = nil },
		func(m *api.Model) { m.Rules[1].Guard = []api.Atom{is(0, 0)} },
		func(m *api.Model) { m.Rules = m.Rules[:1] },
		func(m *api.Model) { m.Rules = append(m.Rules, m.Rules[0]) },
		func(m *api.Model) { m.Laws = []api.Law{{Cond: []api.Atom{is(0, 0)}}} },
	} {
		m := example()
		change(&m)
		if !rules.Valid(m) || symmetry.Equal(m, example()) || symmetry.Equal(example(), m) || !symmetry.Equal(m, m) {
			t.Errorf("%d: the changed model is equal", i)
		}
	}
	m, n := example(), example()
	m.Timers, n.Timers = 2, 2
	m.Rules[0] = api.Rule{Timer: 0, Starts: []api.Start{{Timer: 1, Seconds: 5}}}
	n.Rules[0] = api.Rule{Timer: 0, Starts: []api.Start{{Timer: 1, Seconds: 6}}}
	if symmetry.Equal(m, n) || !symmetry.Equal(n, n) {
		t.Error("rules with different starts are alike")
	}
	n.Rules[0] = api.Rule{Timer: 1, Starts: []api.Start{{Timer: 1, Seconds: 5}}}
	if symmetry.Equal(m, n) {
		t.Error("rules with different timers are alike")
	}
	m, n = example(), example()
	m.Rules[0].Guard = []api.Atom{is(0, 1), is(0, 1), is(1, 1)}
	n.Rules[0].Guard = []api.Atom{is(1, 1), is(0, 1), is(1, 1)}
	if symmetry.Equal(m, n) {
		t.Error("rules are alike whose guards have comparisons differently often")
	}
	n.Rules[0].Guard = []api.Atom{is(0, 1), is(1, 1), is(0, 1)}
	if !symmetry.Equal(m, n) {
		t.Error("the order of a guard matters")
	}
}

// P16.1: the zero comparison of a rule with a timer stays, and sets are in order again.
func TestExchangedRules(t *testing.T) {
	m := example()
	m.Timers = 1
	m.Rules = []api.Rule{{Name: "t", Timer: 0, Sets: []api.Set{{Var: 0, Value: 1}, {Var: 1, Value: 0}}}, {Name: "u", Timer: -1, Trigger: is(0, 1), Guard: []api.Atom{is(1, 1), is(2, 1)}, Sets: []api.Set{{Var: 1, Value: 1}, {Var: 2, Value: 0}}}}
	m.Laws = []api.Law{{Name: "l", Cond: []api.Atom{is(0, 1)}, Bound: 3}}
	got, err := symmetry.Exchange(m, 0, 1)
	want := m
	want.Rules = []api.Rule{{Name: "t", Timer: 0, Sets: []api.Set{{Var: 0, Value: 0}, {Var: 1, Value: 1}}}, {Name: "u", Timer: -1, Trigger: is(1, 1), Guard: []api.Atom{is(0, 1), is(2, 1)}, Sets: []api.Set{{Var: 0, Value: 1}, {Var: 2, Value: 0}}}}
	want.Laws = []api.Law{{Name: "l", Cond: []api.Atom{is(1, 1)}, Bound: 3}}
	if err != api.OK || !same(got, want) {
		t.Errorf("Exchange(%+v) = %+v, %v", m, got, err)
	}
}

// P16.1: random models and states have the results of the reference.
func TestReference(t *testing.T) {
	m := maker{rand.New(rand.NewSource(1))}
	joined, moved, laws := 0, 0, 0
	for range 3000 {
		model := m.model()
		if !rules.Valid(model) {
			t.Fatalf("%+v is not well-formed", model)
		}
		classes := symmetry.Classes(model)
		if !same(classes, refClasses(model)) {
			t.Errorf("Classes(%+v) = %v, want %v", model, classes, refClasses(model))
		}
		if slices.ContainsFunc(classes, func(c []int) bool { return len(c) > 1 }) {
			joined++
		}
		devices := refDevices(model)
		x, y := devices[m.Intn(len(devices))], devices[m.Intn(len(devices))]
		got, err := symmetry.Exchange(model, x, y)
		if partners, ok := refPartners(model, x, y); ok != (err == api.OK) || ok && !same(got, refExchange(model, partners)) || !ok && err != api.ErrType {
			t.Errorf("Exchange(%+v, %v, %v) = %+v, %v", model, x, y, got, err)
		}
		other := m.model()
		if m.chance(2) {
			other = reversed(model)
			m.spoil(&other)
		}
		for _, pair := range [][2]api.Model{{model, other}, {other, model}, {model, got}} {
			if equal := symmetry.Equal(pair[0], pair[1]); equal != refEqual(pair[0], pair[1]) {
				t.Errorf("Equal(%+v, %+v) = %v", pair[0], pair[1], equal)
			}
		}
		s := m.state(model)
		canon := symmetry.Canon(model, s)
		if !same(canon, refCanon(model, s)) {
			t.Errorf("Canon(%+v, %v) = %v, want %v", model, s, canon, refCanon(model, s))
		}
		if !slices.Equal(canon.Values, s.Values) {
			moved++
		}
		if !slices.Equal(canon.Over, s.Over) {
			laws++
		}
	}
	if joined < 1000 || moved < 500 || laws < 150 {
		t.Errorf("%d models with classes, %d states with other values, %d with other laws", joined, moved, laws)
	}
}

// P16.1: classes and representatives of a model with many devices.
func TestManyDevices(t *testing.T) {
	var m api.Model
	for i := range 400 {
		m.Vars = append(m.Vars, api.Var{Size: 4, Sensor: true, Device: i})
		m.Rules = append(m.Rules, api.Rule{Timer: -1, Trigger: is(i, 1), Priority: i % 2})
	}
	classes := symmetry.Classes(m)
	if len(classes) != 2 || len(classes[0]) != 200 || classes[1][199] != 399 {
		t.Errorf("the classes are %v", classes)
	}
	s := rules.Start(m)
	for i := range s.Values {
		s.Values[i] = (400 - i) % 4
	}
	got := symmetry.Canon(m, s)
	for i := 2; i < 400; i++ {
		if got.Values[i] < got.Values[i-2] {
			t.Fatalf("the representative is %v", got)
		}
	}
}

// P3: equal arguments have equal results, arguments are not changed, and results share nothing with them.
func TestIndependence(t *testing.T) {
	m := maker{rand.New(rand.NewSource(2))}
	for range 500 {
		model := m.model()
		s := m.state(model)
		x := refDevices(model)[0]
		before := fmt.Sprint(model, s)
		exchanged, _ := symmetry.Exchange(model, x, x)
		classes, canon := symmetry.Classes(model), symmetry.Canon(model, s)
		kept := fmt.Sprint(exchanged, classes, canon)
		clear(exchanged.Vars)
		for _, r := range exchanged.Rules {
			clear(r.Guard)
			clear(r.Sets)
			clear(r.Starts)
		}
		for _, l := range exchanged.Laws {
			clear(l.Cond)
		}
		for _, c := range classes {
			clear(c)
		}
		for _, l := range [][]int{canon.Values, canon.Left, canon.Over} {
			for i := range l {
				l[i] = 77
			}
		}
		exchanged, _ = symmetry.Exchange(model, x, x)
		if again := fmt.Sprint(exchanged, symmetry.Classes(model), symmetry.Canon(model, s)); again != kept || fmt.Sprint(model, s) != before {
			t.Fatalf("%s: %s, and then %s", before, kept, again)
		}
	}
	over := example()
	over.Over = []api.Pair{{Winner: 0, Loser: 1}}
	exchanged, _ := symmetry.Exchange(over, 0, 1)
	clear(exchanged.Over)
	if over.Over[0].Loser != 1 {
		t.Error("the exchanged model shares memory with the model")
	}
	s := rules.Start(over)
	symmetry.Canon(over, s).Values[0] = 7
	if s.Values[0] != 0 {
		t.Error("the representative shares memory with the state")
	}
}
