package codegen_test

import (
	"fmt"
	"math/rand"
	"reflect"
	"slices"
	"testing"

	"domicile/api"
	"domicile/bytecode"
	"domicile/codegen"
	"domicile/rules"
)

// code returns a sequence from pairs of Ops and Args.
func code(numbers ...int) []api.Instr {
	var l []api.Instr
	for i := 0; i < len(numbers); i += 2 {
		l = append(l, api.Instr{Op: numbers[i], Arg: numbers[i+1]})
	}
	return l
}

// atom returns a comparison.
func atom(v, op, value int) api.Atom { return api.Atom{Var: v, Op: op, Value: value} }

// compile returns the program of a model that has one.
func compile(t *testing.T, m api.Model) api.Program {
	t.Helper()
	p, err := codegen.Compile(m)
	if err != api.OK {
		t.Fatalf("Compile(%+v): %v", m, err)
	}
	return p
}

// wantError checks that a model has no program.
func wantError(t *testing.T, name string, m api.Model, want api.Errno) {
	t.Helper()
	if p, err := codegen.Compile(m); err != want || !reflect.DeepEqual(p, api.Program{}) {
		t.Errorf("%s: %.200s, %v, want %v", name, fmt.Sprintf("%+v", p), err, want)
	}
}

// P9.1: the code of conjunctions, with the examples of the chapter.
func TestCond(t *testing.T) {
	for _, test := range []struct {
		l    []api.Atom
		want []api.Instr
	}{
		{nil, nil},
		{[]api.Atom{atom(2, api.OpEq, 1)}, code(api.InsVar, 2, api.InsConst, 1, api.InsEq, 0)},
		{[]api.Atom{atom(2, api.OpEq, 1), atom(0, api.OpLt, 3)}, code(api.InsVar, 2, api.InsConst, 1, api.InsEq, 0, api.InsVar, 0, api.InsConst, 3, api.InsLt, 0, api.InsAnd, 0)},
		{[]api.Atom{atom(1, api.OpNe, 0), atom(2, api.OpLe, 1), atom(3, api.OpGt, 2)}, code(api.InsVar, 1, api.InsConst, 0, api.InsNe, 0, api.InsVar, 2, api.InsConst, 1, api.InsLe, 0, api.InsAnd, 0, api.InsVar, 3, api.InsConst, 2, api.InsGt, 0, api.InsAnd, 0)},
		{[]api.Atom{atom(-7, api.OpGe, 1<<62)}, code(api.InsVar, -7, api.InsConst, 1<<62, api.InsGe, 0)},
		{[]api.Atom{atom(0, 0, 0)}, nil},
		{[]api.Atom{atom(0, 7, 0)}, nil},
		{[]api.Atom{atom(0, -1, 0)}, nil},
		{[]api.Atom{atom(0, api.OpEq, 0), atom(0, 1<<62, 0)}, nil},
		{[]api.Atom{atom(0, -1<<63, 0), atom(0, api.OpEq, 0)}, nil},
	} {
		if got := codegen.Cond(test.l); !slices.Equal(got, test.want) {
			t.Errorf("Cond(%v) = %v, want %v", test.l, got, test.want)
		}
	}
	if got := codegen.Cond(slices.Repeat([]api.Atom{atom(0, api.OpEq, 0)}, 1000)); len(got) != 3999 {
		t.Errorf("1000 comparisons have %d instructions", len(got))
	}
}

// full is a model with a part of each kind.
func full() api.Model {
	return api.Model{
		Vars: []api.Var{{Name: "a", Size: 2, Start: 1, Sensor: true, Device: -1, Attr: -1}, {Name: "b", Size: 16, Fallback: 15, Private: true, Shown: true, Device: 1000000000, Attr: 1000000000}}, Timers: 2,
		Rules: []api.Rule{
			{Name: "r", Priority: 100, Timer: -1, Trigger: atom(1, api.OpLt, 16), Guard: []api.Atom{atom(0, api.OpEq, 1), atom(1, api.OpGe, 0)}, Sets: []api.Set{{Var: 0, Value: 1}, {Var: 1, Value: 15}}, Starts: []api.Start{{Timer: 0, Seconds: 86400}, {Timer: 1, Seconds: 0}}},
			{Name: "s", Timer: 1, Sets: []api.Set{{Var: 1, Value: 0}}, Starts: []api.Start{{Timer: 0, Seconds: 60}}},
			{Priority: 5},
		},
		Laws: []api.Law{{Name: "l", Cond: []api.Atom{atom(0, api.OpNe, 1), atom(1, api.OpGt, 3)}, Bound: 86400}},
		Over: []api.Pair{{Winner: 2, Loser: 0}, {Winner: 0, Loser: 1}},
	}
}

// P9.1: the program of a model.
func TestCompile(t *testing.T) {
	m := full()
	want := api.Program{
		Vars: m.Vars, Timers: 2,
		Units: []api.Unit{
			{Priority: 100, Timer: -1, Trigger: code(api.InsVar, 1, api.InsConst, 16, api.InsLt, 0), Guard: code(api.InsVar, 0, api.InsConst, 1, api.InsEq, 0, api.InsVar, 1, api.InsConst, 0, api.InsGe, 0, api.InsAnd, 0),
				Action: code(api.InsConst, 1, api.InsSet, 0, api.InsConst, 15, api.InsSet, 1, api.InsConst, 86400, api.InsStart, 0, api.InsConst, 0, api.InsStart, 1)},
			{Timer: 1, Action: code(api.InsConst, 0, api.InsSet, 1, api.InsConst, 60, api.InsStart, 0)},
			{Priority: 5},
		},
		Laws: []api.LawCode{{Cond: code(api.InsVar, 0, api.InsConst, 1, api.InsNe, 0, api.InsVar, 1, api.InsConst, 3, api.InsGt, 0, api.InsAnd, 0), Bound: 86400}},
		Over: m.Over,
	}
	if got := compile(t, m); !reflect.DeepEqual(got, want) {
		t.Errorf("Compile = %+v, want %+v", got, want)
	}
	if got := compile(t, api.Model{}); !reflect.DeepEqual(got, api.Program{}) {
		t.Errorf("the empty model has the program %+v", got)
	}
}

// P9.1 and P9.7: the errors, in their order.
func TestErrors(t *testing.T) {
	long := full()
	long.Vars = slices.Concat(long.Vars, slices.Repeat([]api.Var{{Size: 2}}, 198))
	for v := 2; v < 199; v++ {
		long.Rules[0].Sets = append(long.Rules[0].Sets, api.Set{Var: v})
	}
	long.Rules[0].Starts = long.Rules[0].Starts[:1]
	if p := compile(t, long); len(p.Units[0].Action) != 400 || bytecode.Check(p) != api.OK {
		t.Errorf("%d instructions, %v", len(p.Units[0].Action), bytecode.Check(p))
	}
	for name, change := range map[string]func(*api.Model){
		"not well-formed":   func(m *api.Model) { m.Timers = 41 },
		"a wrong pair":      func(m *api.Model) { m.Over[0].Loser = 2 },
		"a wrong trigger":   func(m *api.Model) { m.Rules[0].Trigger.Op = 7 },
		"a device too much": func(m *api.Model) { m.Vars[1].Device = 1000000001 },
		"an attr too much":  func(m *api.Model) { m.Vars[1].Attr = 1000000001 },
		"the greatest attr": func(m *api.Model) { m.Vars[0].Attr = 1<<63 - 1 },
	} {
		m := full()
		change(&m)
		wantError(t, name, m, api.ErrArg)
		m.Vars, m.Rules[0].Sets = slices.Concat(m.Vars, long.Vars[2:]), long.Rules[0].Sets
		wantError(t, name+" and a long action", m, api.ErrArg)
	}
	more := long
	more.Rules = slices.Clone(long.Rules)
	more.Rules[0].Starts = []api.Start{{Timer: 0}, {Timer: 1}}
	wantError(t, "a long action", more, api.ErrLimit)
	more.Rules[0].Starts = nil
	more.Rules[0].Sets = append(slices.Clone(long.Rules[0].Sets), api.Set{Var: 199})
	if p := compile(t, more); len(p.Units[0].Action) != 400 {
		t.Errorf("%d instructions, want 400", len(p.Units[0].Action))
	}
	more.Rules[0].Starts = []api.Start{{Timer: 1}}
	wantError(t, "a long action with sets", more, api.ErrLimit)
}

// maker makes up small well-formed models.
type maker struct{ *rand.Rand }

func (m maker) atoms(model api.Model, least, most int) []api.Atom {
	var list []api.Atom
	for range least + m.Intn(most-least+1) {
		v, op := m.Intn(len(model.Vars)), api.OpEq+m.Intn(6)
		size := model.Vars[v].Size
		if op > api.OpNe {
			size++
		}
		list = append(list, atom(v, op, m.Intn(size)))
	}
	return list
}

func (m maker) model() api.Model {
	var model api.Model
	for range 1 + m.Intn(4) {
		size := 1 + m.Intn(16)
		model.Vars = append(model.Vars, api.Var{Name: string(rune('a' + m.Intn(3))), Size: size, Start: m.Intn(size), Fallback: m.Intn(size), Sensor: m.Intn(2) == 0, Device: m.Intn(4) - 1, Attr: m.Intn(4) - 1})
	}
	model.Timers = m.Intn(4)
	for range m.Intn(5) {
		r := api.Rule{Name: "r", Priority: m.Intn(101), Timer: -1, Guard: m.atoms(model, 0, 8)}
		if model.Timers > 0 && m.Intn(3) == 0 {
			r.Timer = m.Intn(model.Timers)
		} else {
			r.Trigger = m.atoms(model, 1, 1)[0]
		}
		for v := range model.Vars {
			if m.Intn(2) == 0 {
				r.Sets = append(r.Sets, api.Set{Var: v, Value: m.Intn(model.Vars[v].Size)})
			}
		}
		for timer := range model.Timers {
			if m.Intn(2) == 0 {
				r.Starts = append(r.Starts, api.Start{Timer: timer, Seconds: m.Intn(86401)})
			}
		}
		model.Rules = append(model.Rules, r)
	}
	for range m.Intn(3) {
		model.Laws = append(model.Laws, api.Law{Name: "l", Cond: m.atoms(model, 1, 8), Bound: m.Intn(86401)})
	}
	if len(model.Rules) > 1 {
		model.Over = []api.Pair{{Winner: m.Intn(2), Loser: 0}}
		model.Over[0].Loser = 1 - model.Over[0].Winner
	}
	return model
}

// models calls a function with random well-formed models.
func models(seed int64, each func(m maker, model api.Model)) {
	for i := range 3000 {
		m := maker{rand.New(rand.NewSource(seed*1000000 + int64(i)))}
		each(m, m.model())
	}
}

// P9.2: the program of a model is valid and can be encoded.
func TestValidity(t *testing.T) {
	models(1, func(_ maker, model api.Model) {
		p := compile(t, model)
		b := bytecode.Encode(p)
		again, err := bytecode.Decode(b)
		if bytecode.Check(p) != api.OK || len(b) == 0 || err != api.OK || !reflect.DeepEqual(again, p) {
			t.Errorf("%+v has the program %+v: %v", model, p, bytecode.Check(p))
		}
	})
}

// stack executes code on a stack with variables and timers, and returns what is left of it and the greatest size.
func stack(l []api.Instr, values, timers map[int]int, read []int) ([]int, int) {
	var s []int
	most := 0
	for _, i := range l {
		n := len(s)
		switch i.Op {
		case api.InsVar:
			s = append(s, read[i.Arg])
		case api.InsConst:
			s = append(s, i.Arg)
		case api.InsAnd:
			s = append(s[:n-2], s[n-2]*s[n-1])
		case api.InsSet:
			values[i.Arg], s = s[n-1], s[:n-1]
		case api.InsStart:
			timers[i.Arg], s = s[n-1], s[:n-1]
		default:
			a, b := s[n-2], s[n-1]
			holds := map[int]bool{api.InsEq: a == b, api.InsNe: a != b, api.InsLt: a < b, api.InsLe: a <= b, api.InsGt: a > b, api.InsGe: a >= b}[i.Op]
			s = append(s[:n-2], map[bool]int{true: 1}[holds])
		}
		most = max(most, len(s))
	}
	return s, most
}

// P9.3: the code of a conjunction leaves whether all comparisons hold, and needs at most three elements.
func TestConditions(t *testing.T) {
	models(2, func(m maker, model api.Model) {
		list := m.atoms(model, 1, 8)
		l := codegen.Cond(list)
		var values []int
		for _, v := range model.Vars {
			values = append(values, m.Intn(v.Size))
		}
		want := 1
		for _, a := range list {
			if !rules.Holds(a, values) {
				want = 0
			}
		}
		got, most := stack(l, nil, nil, values)
		depth, err := bytecode.Depth(l)
		if !slices.Equal(got, []int{want}) || most > 3 || err != api.OK || depth != most {
			t.Errorf("%v with %v leaves %v, want %v; it needs %v", l, values, got, want, most)
		}
	})
}

// P9.4 and P9.5: there is a unit for each rule, whose action does what the rule does, and a law code for each law.
func TestUnits(t *testing.T) {
	models(3, func(_ maker, model api.Model) {
		p := compile(t, model)
		if !slices.Equal(p.Vars, model.Vars) || p.Timers != model.Timers || !slices.Equal(p.Over, model.Over) || len(p.Units) != len(model.Rules) || len(p.Laws) != len(model.Laws) {
			t.Fatalf("%+v has the program %+v", model, p)
		}
		for i, r := range model.Rules {
			u := p.Units[i]
			var trigger []api.Instr
			if r.Timer == -1 {
				trigger = codegen.Cond([]api.Atom{r.Trigger})
			}
			if u.Priority != r.Priority || u.Timer != r.Timer || !slices.Equal(u.Trigger, trigger) || !slices.Equal(u.Guard, codegen.Cond(r.Guard)) {
				t.Errorf("the rule %+v has the unit %+v", r, u)
			}
			wantAction(t, r, u.Action)
		}
		for i, l := range model.Laws {
			if !slices.Equal(p.Laws[i].Cond, codegen.Cond(l.Cond)) || p.Laws[i].Bound != l.Bound {
				t.Errorf("the law %+v has the code %+v", l, p.Laws[i])
			}
		}
	})
}

// wantAction checks that the code of an action sets the variables and starts the timers of a rule, in order.
func wantAction(t *testing.T, r api.Rule, action []api.Instr) {
	t.Helper()
	values, timers := map[int]int{}, map[int]int{}
	rest, _ := stack(action, values, timers, nil)
	var targets, want []int
	for _, i := range action {
		if i.Op != api.InsConst {
			targets = append(targets, i.Op, i.Arg)
		}
	}
	for _, s := range r.Sets {
		want = append(want, api.InsSet, s.Var)
		if values[s.Var] != s.Value {
			t.Errorf("%v sets %v, want %v", action, values, r.Sets)
		}
	}
	for _, s := range r.Starts {
		want = append(want, api.InsStart, s.Timer)
		if timers[s.Timer] != s.Seconds {
			t.Errorf("%v starts %v, want %v", action, timers, r.Starts)
		}
	}
	if len(rest) > 0 || !slices.Equal(targets, want) {
		t.Errorf("the rule %+v has the action %v", r, action)
	}
}

// P9.6: two models have the same program exactly if they differ at most in the names of rules and laws.
func TestDifferentModels(t *testing.T) {
	same, different := 0, 0
	models(4, func(m maker, model api.Model) {
		p := compile(t, model)
		named := model
		named.Rules, named.Laws = slices.Clone(model.Rules), slices.Clone(model.Laws)
		for i := range named.Rules {
			named.Rules[i].Name += "x"
		}
		for i := range named.Laws {
			named.Laws[i].Name = "y"
		}
		if !reflect.DeepEqual(compile(t, named), p) {
			t.Errorf("%+v has another program with other names", model)
		}
		other := changed(m, named)
		if !rules.Valid(other) {
			return
		}
		equal := reflect.DeepEqual(other, named)
		if reflect.DeepEqual(compile(t, other), p) != equal {
			t.Errorf("%+v and %+v have the same program: %v", model, other, !equal)
		}
		if equal {
			same++
		} else {
			different++
		}
	})
	if same < 50 || different < 500 {
		t.Errorf("%d models with the same program and %d others are too few", same, different)
	}
}

// changed returns a model with a change in one place; the change can be none.
func changed(m maker, model api.Model) api.Model {
	other := model
	other.Vars, other.Rules, other.Laws = slices.Clone(model.Vars), slices.Clone(model.Rules), slices.Clone(model.Laws)
	by := m.Intn(3)
	v := m.Intn(len(other.Vars))
	switch k := m.Intn(10); {
	case k == 0:
		other.Timers += by
	case k == 1:
		other.Vars[v].Size += by
	case k == 2:
		other.Vars[v].Attr += by
	case k == 3 && len(other.Over) > 0:
		other.Over = other.Over[:1-by/2]
	case k == 4 && len(other.Laws) > 0:
		other.Laws[0].Bound += by
	case k == 5 && len(other.Laws) > 0:
		other.Laws[0].Cond = m.atoms(model, 1, 2)
	case k == 6 && len(other.Rules) > 0:
		other.Rules[0].Guard = other.Rules[0].Guard[:max(0, len(other.Rules[0].Guard)-by)]
	case k == 7 && len(other.Rules) > 0:
		other.Rules[0].Sets = other.Rules[0].Sets[:max(0, len(other.Rules[0].Sets)-by)]
	case k == 8 && len(other.Rules) > 0 && other.Rules[0].Timer == -1:
		other.Rules[0].Trigger.Op += by
	case k == 9 && len(other.Rules) > 0:
		other.Rules[0].Priority += by
	}
	return normal(other)
}

// normal returns a model in which the empty slices of its rules are nil.
func normal(m api.Model) api.Model {
	for i := range m.Rules {
		if len(m.Rules[i].Guard) == 0 {
			m.Rules[i].Guard = nil
		}
		if len(m.Rules[i].Sets) == 0 {
			m.Rules[i].Sets = nil
		}
	}
	if len(m.Over) == 0 {
		m.Over = nil
	}
	return m
}

// P9.7: with smaller actions there is no error either.
func TestSmallerActions(t *testing.T) {
	models(5, func(m maker, model api.Model) {
		compile(t, model)
		for i, r := range model.Rules {
			model.Rules[i].Sets = r.Sets[:m.Intn(len(r.Sets)+1)]
			model.Rules[i].Starts = r.Starts[:m.Intn(len(r.Starts)+1)]
		}
		compile(t, model)
	})
}

// P3: equal models have equal programs, models are not changed, and a changed program changes nothing.
func TestIndependence(t *testing.T) {
	models(6, func(_ maker, model api.Model) {
		before := fmt.Sprintf("%#v", model)
		p := compile(t, model)
		kept := fmt.Sprintf("%#v", p)
		clear(p.Vars)
		clear(p.Over)
		for _, u := range p.Units {
			clear(u.Action)
			clear(u.Guard)
		}
		if again := fmt.Sprintf("%#v", compile(t, model)); again != kept || fmt.Sprintf("%#v", model) != before {
			t.Errorf("%s: %s, and then %s", before, kept, again)
		}
	})
}
