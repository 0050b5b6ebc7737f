package machine_test

import (
	"fmt"
	"math/rand"
	"reflect"
	"slices"
	"testing"

	"domicile/api"
	"domicile/bytecode"
	"domicile/codegen"
	"domicile/machine"
	"domicile/rules"
)

// atoms returns the comparisons of a plain condition.
func atoms(l []api.Instr) []api.Atom {
	var list []api.Atom
	for i := range l {
		if op := l[i].Op; op >= api.InsEq && op <= api.InsGe {
			list = append(list, api.Atom{Var: l[i-2].Arg, Op: api.OpEq + op - api.InsEq, Value: l[i-1].Arg})
		}
	}
	return list
}

// model returns the model of a plain program.
func model(p api.Program) api.Model {
	m := api.Model{Vars: p.Vars, Timers: p.Timers, Over: p.Over}
	for _, u := range p.Units {
		r := api.Rule{Priority: u.Priority, Timer: u.Timer, Guard: atoms(u.Guard)}
		if u.Timer == -1 {
			r.Trigger = atoms(u.Trigger)[0]
		}
		for pair := range slices.Chunk(u.Action, 2) {
			if pair[1].Op == api.InsSet {
				r.Sets = append(r.Sets, api.Set{Var: pair[1].Arg, Value: pair[0].Arg})
			} else {
				r.Starts = append(r.Starts, api.Start{Timer: pair[1].Arg, Seconds: pair[0].Arg})
			}
		}
		m.Rules = append(m.Rules, r)
	}
	for _, l := range p.Laws {
		m.Laws = append(m.Laws, api.Law{Cond: atoms(l.Cond), Bound: l.Bound})
	}
	return m
}

// P10.2 (and T2): a program of a model does what the rules mean; the compiled program is the same.
func TestMeaning(t *testing.T) {
	walks(2, true, 3000, func(_ maker, p api.Program, s api.State, in api.Input) {
		m := model(p)
		if !rules.Valid(m) {
			t.Fatalf("%+v is not well-formed", m)
		}
		wantStep(t, api.Step{State: machine.Start(p)}, api.Step{State: rules.Start(m)})
		want, err := rules.Apply(m, s, in)
		if err != api.OK {
			t.Fatalf("%+v: %v", m, err)
		}
		wantStep(t, apply(t, p, s, in), want)
		compiled, err := codegen.Compile(m)
		if err != api.OK {
			t.Fatalf("%+v: %v", m, err)
		}
		wantStep(t, apply(t, compiled, s, in), want)
	})
}

// eval returns the value of a condition.
func eval(t *testing.T, l []api.Instr, values []int) bool {
	t.Helper()
	got, err := machine.Eval(l, values)
	if err != api.OK {
		t.Fatalf("Eval(%v, %v): %v", l, values, err)
	}
	return got
}

// P10.3: InsAnd; comparing the other way round, and with the opposite comparison; other variables.
func TestConditions(t *testing.T) {
	m := maker{rand.New(rand.NewSource(3)), false}
	swapped := map[int]int{api.InsEq: api.InsEq, api.InsNe: api.InsNe, api.InsLt: api.InsGt, api.InsLe: api.InsGe, api.InsGt: api.InsLt, api.InsGe: api.InsLe}
	opposite := map[int]int{api.InsEq: api.InsNe, api.InsNe: api.InsEq, api.InsLt: api.InsGe, api.InsLe: api.InsGt, api.InsGt: api.InsLe, api.InsGe: api.InsLt}
	for range 10000 {
		p := m.program()
		var values []int
		for range len(p.Vars) {
			values = append(values, m.Intn(4))
		}
		a, b := m.condition(p, 1+m.Intn(3)), m.condition(p, 1+m.Intn(3))
		if got := eval(t, both(a, b), values); got != (eval(t, a, values) && eval(t, b, values)) {
			t.Errorf("%v and %v with %v: %v", a, b, values, got)
		}
		c := m.comparison(p)
		if eval(t, []api.Instr{c[1], c[0], {Op: swapped[c[2].Op]}}, values) != eval(t, c, values) || eval(t, []api.Instr{c[0], c[1], {Op: opposite[c[2].Op]}}, values) == eval(t, c, values) {
			t.Errorf("%v with %v", c, values)
		}
		other := slices.Clone(values)
		for v := range other {
			if !slices.Contains(a, api.Instr{Op: api.InsVar, Arg: v}) {
				other[v] = m.Intn(9) - 4
			}
		}
		if eval(t, a, other) != eval(t, a, values) || eval(t, a, append(other, 7)) != eval(t, a, values) {
			t.Errorf("%v with %v and %v", a, values, other)
		}
	}
}

// P10.4: every state that is reached is well-formed, and only commands and the input change values.
func TestStates(t *testing.T) {
	walks(4, false, 1500, func(_ maker, p api.Program, s api.State, in api.Input) {
		step := apply(t, p, s, in)
		for i, value := range step.State.Values {
			want := s.Values[i]
			if in.Kind == api.InSet && in.Var == i {
				want = in.Value
			}
			for _, c := range step.Commands {
				if c.Var == i {
					want = c.Value
				}
			}
			if value != want || value < 0 || value >= p.Vars[i].Size {
				t.Errorf("%v after %v: the variable %v is %v, want %v", s, in, i, value, want)
			}
		}
		if in.Kind == api.InWait && (!slices.Equal(step.State.Values, s.Values) || len(step.Firings)+len(step.Commands)+len(step.Clashes) > 0) {
			t.Errorf("%v after %v: %+v", s, in, step)
		}
		// A state that is not well-formed would have ErrArg for everything.
		if _, err := machine.Apply(p, step.State, wait(-1)); err != api.ErrState {
			t.Errorf("%v after %v is not well-formed: %v", s, in, step.State)
		}
	})
}

// P10.5: of the settings of a variable by one unit the last one counts, and settings and starts can change places.
func TestActions(t *testing.T) {
	walks(5, false, 3000, func(m maker, p api.Program, s api.State, in api.Input) {
		if len(p.Units) == 0 {
			return
		}
		step := apply(t, p, s, in)
		other := p
		other.Units = slices.Clone(p.Units)
		var pairs, first [][]api.Instr
		for pair := range slices.Chunk(p.Units[0].Action, 2) {
			pairs = append(pairs, pair)
		}
		for _, pair := range slices.Backward(pairs) {
			if pair[1].Op == api.InsStart {
				first = append([][]api.Instr{pair}, first...)
			}
		}
		moved := slices.Concat(slices.Concat(first...), slices.Concat(slices.DeleteFunc(slices.Clone(pairs), func(l []api.Instr) bool { return l[1].Op == api.InsStart })...))
		other.Units[0].Action = moved
		wantStep(t, apply(t, other, s, in), step)
		alone := func(v int) bool {
			return !slices.ContainsFunc(p.Units[1:], func(u api.Unit) bool {
				return slices.Contains(u.Action, api.Instr{Op: api.InsSet, Arg: v})
			})
		}
		var last []api.Instr
		for i, pair := range pairs {
			again := slices.ContainsFunc(pairs[i+1:], func(l []api.Instr) bool { return l[1] == pair[1] })
			if pair[1].Op == api.InsStart || !again || !alone(pair[1].Arg) {
				last = append(last, pair...)
			}
		}
		other.Units[0].Action = last
		wantStep(t, apply(t, other, s, in), step)
	})
}

// P10.6: a program that has been encoded and decoded does the same.
func TestBytes(t *testing.T) {
	walks(6, false, 500, func(_ maker, p api.Program, s api.State, in api.Input) {
		again, err := bytecode.Decode(bytecode.Encode(p))
		if err != api.OK {
			t.Fatalf("%+v: %v", p, err)
		}
		wantStep(t, apply(t, again, s, in), apply(t, p, s, in))
	})
}

// P3: equal arguments have equal results, arguments are not changed, and a changed result changes nothing.
func TestIndependence(t *testing.T) {
	walks(7, false, 500, func(_ maker, p api.Program, s api.State, in api.Input) {
		before := fmt.Sprintf("%#v %#v", p, s)
		first := apply(t, p, s, in)
		kept := fmt.Sprintf("%#v", first)
		clear(first.State.Values)
		clear(first.State.Left)
		clear(first.State.Over)
		if again := apply(t, p, s, in); fmt.Sprintf("%#v", again) != kept || fmt.Sprintf("%#v %#v", p, s) != before {
			t.Errorf("%s: %s, and then %#v", before, kept, again)
		}
		start := machine.Start(p)
		clear(start.Values)
		if again := machine.Start(p); !reflect.DeepEqual(normal(api.Step{State: again}), normal(api.Step{State: refStart(p)})) {
			t.Errorf("%s: the first state is %v", before, again)
		}
	})
}
