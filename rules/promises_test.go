package rules_test

import (
	"fmt"
	"math/rand"
	"reflect"
	"slices"
	"testing"

	"domicile/api"
	"domicile/rules"
)

// P7.2: every state that is reached is well-formed, and only commands and the input change values.
func TestStates(t *testing.T) {
	walks(2, 1500, 12, func(_ maker, m api.Model, s api.State, in api.Input) {
		step := apply(t, m, s, in)
		next := step.State
		if len(next.Values) != len(m.Vars) || len(next.Left) != m.Timers || len(next.Over) != len(m.Laws) {
			t.Fatalf("%v after %v is not well-formed", next, in)
		}
		for i, value := range next.Values {
			want := s.Values[i]
			if in.Kind == api.InSet && in.Var == i {
				want = in.Value
			}
			for _, c := range step.Commands {
				if c.Var == i {
					want = c.Value
				}
			}
			if value != want || value < 0 || value >= m.Vars[i].Size {
				t.Errorf("%v after %v: the variable %v is %v, want %v", s, in, i, value, want)
			}
		}
		for _, left := range next.Left {
			if left < -1 || left > 86400 {
				t.Errorf("%v after %v has the timers %v", s, in, next.Left)
			}
		}
		for i, l := range m.Laws {
			if refAll(l.Cond, next.Values) != (next.Over[i] >= 0) || next.Over[i] < -1 || next.Over[i] > l.Bound+1 {
				t.Errorf("%v after %v has the laws %v", s, in, next.Over)
			}
		}
		if in.Kind == api.InWait && (!slices.Equal(next.Values, s.Values) || len(step.Firings)+len(step.Commands)+len(step.Clashes) > 0 || step.Endless) {
			t.Errorf("%v after %v: %+v", s, in, step)
		}
	})
}

// P7.3: waiting twice is waiting once for the sum; without a timer that has 0 left, waiting is permitted.
func TestTime(t *testing.T) {
	walks(3, 1500, 12, func(m maker, model api.Model, s api.State, _ api.Input) {
		a, b := 1+m.Intn(4), 1+m.Intn(4)
		once, errOnce := rules.Apply(model, s, wait(a+b))
		first, errFirst := rules.Apply(model, s, wait(a))
		if (errFirst == api.OK) != !slices.ContainsFunc(s.Left, func(left int) bool { return left >= 0 && left < a }) {
			t.Errorf("waiting for %v in %v: %v", a, s, errFirst)
		}
		if errFirst != api.OK {
			return
		}
		second, errSecond := rules.Apply(model, first.State, wait(b))
		if errOnce != errSecond {
			t.Errorf("waiting for %v and %v in %v: %v and %v", a, b, s, errOnce, errSecond)
		} else if errOnce == api.OK {
			wantStep(t, second, once)
		}
	})
}

// values returns the values before each wave of a step; those of the wave n are the elements n and n + 1.
func values(m api.Model, s api.State, in api.Input, step api.Step) [][]int {
	before, after := slices.Clone(s.Values), slices.Clone(s.Values)
	if in.Kind == api.InSet {
		after[in.Var] = in.Value
	}
	list := [][]int{before, after}
	for wave := 0; len(step.Firings) > 0 && wave <= step.Firings[len(step.Firings)-1].Wave; wave++ {
		next := slices.Clone(list[len(list)-1])
		for v, c := range present(m, step, wave) {
			next[v] = c.Value
		}
		list = append(list, next)
	}
	return list
}

// present returns the command that counts for each variable in a wave: no other one has a greater priority, or is preferred.
func present(m api.Model, step api.Step, wave int) map[int]api.Command {
	commands := map[int]api.Command{}
	for _, f := range step.Firings {
		for _, e := range m.Rules[f.Rule].Sets {
			if f.Wave != wave {
				continue
			}
			old, ok := commands[e.Var]
			priority := m.Rules[f.Rule].Priority
			if !ok || priority > m.Rules[old.Rule].Priority || priority == m.Rules[old.Rule].Priority && e.Value != old.Value && slices.Contains(m.Over, api.Pair{Winner: f.Rule, Loser: old.Rule}) {
				commands[e.Var] = api.Command{Rule: f.Rule, Var: e.Var, Value: e.Value}
			}
		}
	}
	return commands
}

// P7.4: each firing has a reason, and each reason a firing; between two firings of a rule its trigger became false.
func TestFiring(t *testing.T) {
	walks(4, 1500, 12, func(_ maker, m api.Model, s api.State, in api.Input) {
		if in.Kind == api.InWait {
			return
		}
		step := apply(t, m, s, in)
		list := values(m, s, in, step)
		for wave := range len(list) - 1 {
			for i, r := range m.Rules {
				reason := r.Timer >= 0 && wave == 0 && in.Kind == api.InExpire && in.Timer == r.Timer
				if r.Timer < 0 {
					reason = !rules.Holds(r.Trigger, list[wave]) && rules.Holds(r.Trigger, list[wave+1])
				}
				fired := slices.Contains(step.Firings, api.Firing{Wave: wave, Rule: i})
				if wave < 32 && fired != (reason && refAll(r.Guard, list[wave+1])) {
					t.Errorf("%+v: the rule %v in the wave %v of %+v: %v", m, i, wave, step, fired)
				}
			}
		}
		for i, f := range step.Firings {
			for _, later := range step.Firings[i+1:] {
				if later.Rule != f.Rule {
					continue
				}
				becameFalse := false
				for wave := f.Wave + 1; wave <= later.Wave; wave++ {
					becameFalse = becameFalse || !rules.Holds(m.Rules[f.Rule].Trigger, list[wave])
				}
				if !becameFalse {
					t.Errorf("%+v: the rule %v fires again without a reason", m, f.Rule)
				}
			}
		}
		if len(step.Firings) == 0 && !slices.Equal(step.State.Values, list[1]) {
			t.Errorf("%+v: without a firing, %v becomes %v", m, s, step.State)
		}
	})
}

// P7.5: there is one command for each variable at most, of the last wave in which one was given, and of the greatest priority there.
func TestLastCommands(t *testing.T) {
	walks(5, 1500, 12, func(_ maker, m api.Model, s api.State, in api.Input) {
		step := apply(t, m, s, in)
		for i, c := range step.Commands {
			if i > 0 && step.Commands[i-1].Var >= c.Var || step.State.Values[c.Var] != c.Value {
				t.Errorf("the commands are %v, the values %v", step.Commands, step.State.Values)
			}
		}
		for v := range m.Vars {
			last := -1
			for _, f := range step.Firings {
				if setsVar(m.Rules[f.Rule], v) {
					last = f.Wave
				}
			}
			i := slices.IndexFunc(step.Commands, func(c api.Command) bool { return c.Var == v })
			if (last >= 0) != (i >= 0) {
				t.Fatalf("%+v has %v", step, v)
			}
			for _, f := range step.Firings {
				if f.Wave == last && setsVar(m.Rules[f.Rule], v) && m.Rules[f.Rule].Priority > m.Rules[step.Commands[i].Rule].Priority {
					t.Errorf("%+v: the rule %v has a greater priority than %v", step, f.Rule, step.Commands[i])
				}
			}
			if i >= 0 && !slices.Contains(step.Firings, api.Firing{Wave: last, Rule: step.Commands[i].Rule}) {
				t.Errorf("%+v: %v did not fire in the wave %v", step, step.Commands[i], last)
			}
		}
	})
}

// setsVar reports whether a rule sets a variable.
func setsVar(r api.Rule, v int) bool {
	return slices.ContainsFunc(r.Sets, func(e api.Set) bool { return e.Var == v })
}

// P7.6: what clashes are; preferences change nothing without one, and a preferred pair does not clash.
func TestClashPromises(t *testing.T) {
	walks(6, 2000, 12, func(m maker, model api.Model, s api.State, in api.Input) {
		step := apply(t, model, s, in)
		for _, c := range step.Clashes {
			a, b := model.Rules[c.First], model.Rules[c.Second]
			together := slices.ContainsFunc(step.Firings, func(f api.Firing) bool {
				return f.Rule == c.First && slices.Contains(step.Firings, api.Firing{Wave: f.Wave, Rule: c.Second})
			})
			if c.First >= c.Second || !together || a.Priority != b.Priority || setValue(a, c.Var) == setValue(b, c.Var) || slices.Contains(model.Over, api.Pair{Winner: c.First, Loser: c.Second}) || slices.Contains(model.Over, api.Pair{Winner: c.Second, Loser: c.First}) {
				t.Errorf("%+v: the clash %v in %+v", model, c, step)
			}
		}
		if len(step.Clashes) > 0 {
			return
		}
		more := model
		more.Over = slices.Clone(model.Over)
		m.prefer(&more)
		wantStep(t, apply(t, more, s, in), step)
	})
}

// setValue returns the value to which a rule sets a variable, or -1.
func setValue(r api.Rule, v int) int {
	for _, e := range r.Sets {
		if e.Var == v {
			return e.Value
		}
	}
	return -1
}

// P7.7: a law is broken once it has held for longer than its bound.
func TestBrokenLaws(t *testing.T) {
	walks(7, 1500, 12, func(_ maker, m api.Model, s api.State, in api.Input) {
		if in.Kind != api.InWait {
			return
		}
		next := apply(t, m, s, in).State
		for i, l := range m.Laws {
			held := refAll(l.Cond, s.Values) && s.Over[i]+in.Seconds > l.Bound
			if held != slices.Contains(rules.Broken(m, next), i) {
				t.Errorf("%+v: the law %v after %v and %v: %v", m, i, s, in, !held)
			}
		}
	})
	// From the first state on, a law that holds is broken exactly after its bound.
	for bound := range 10 {
		m := api.Model{Vars: vars(1, 1), Laws: []api.Law{{Cond: []api.Atom{is(0, 0)}, Bound: bound}}}
		s := rules.Start(m)
		for second := range 15 {
			if got := len(rules.Broken(m, s)) > 0; got != (second > bound) {
				t.Errorf("a law with %v seconds is broken after %v: %v", bound, second, got)
			}
			s = apply(t, m, s, wait(1)).State
		}
	}
}

// P7.7: in a run, a law is broken only after its comparisons have held for longer than its bound without a break.
func TestNotBrokenBefore(t *testing.T) {
	for i := range 1500 {
		m := maker{rand.New(rand.NewSource(int64(i)))}
		model := m.model()
		s := rules.Start(model)
		held := make([]int, len(model.Laws))
		for range 20 {
			in, ok := m.permitted(model, s)
			if !ok {
				break
			}
			s = apply(t, model, s, in).State
			for k, l := range model.Laws {
				if in.Kind == api.InWait && refAll(l.Cond, s.Values) {
					held[k] += in.Seconds
				} else if !refAll(l.Cond, s.Values) {
					held[k] = 0
				}
				if slices.Contains(rules.Broken(model, s), k) != (held[k] > l.Bound) {
					t.Errorf("%+v: the law %v has held for %v seconds in %v", model, k, held[k], s)
				}
			}
		}
	}
}

// P7.8: a further rule at the end that does not fire changes nothing.
func TestOtherRules(t *testing.T) {
	quiet := 0
	walks(8, 2000, 12, func(m maker, model api.Model, s api.State, in api.Input) {
		more := model
		more.Rules = append(slices.Clone(model.Rules), m.rule(model))
		got := apply(t, more, s, in)
		if slices.ContainsFunc(got.Firings, func(f api.Firing) bool { return f.Rule == len(model.Rules) }) {
			return
		}
		quiet++
		wantStep(t, got, apply(t, model, s, in))
	})
	if quiet < 500 {
		t.Errorf("%d steps are too few", quiet)
	}
}

// P3: equal arguments have equal results, arguments are not changed, and a changed result changes nothing.
func TestIndependence(t *testing.T) {
	walks(9, 1000, 8, func(_ maker, m api.Model, s api.State, in api.Input) {
		before := fmt.Sprintf("%#v %#v", m, s)
		first := apply(t, m, s, in)
		kept := fmt.Sprintf("%#v", first)
		clear(first.State.Values)
		clear(first.State.Left)
		clear(first.State.Over)
		if again := apply(t, m, s, in); fmt.Sprintf("%#v", again) != kept || fmt.Sprintf("%#v %#v", m, s) != before {
			t.Errorf("%s: %s, and then %#v", before, kept, again)
		}
		start := rules.Start(m)
		other := fmt.Sprintf("%#v", start)
		clear(start.Values)
		if again := rules.Start(m); fmt.Sprintf("%#v", again) != other {
			t.Errorf("%s: the first state is %s, and then %#v", before, other, again)
		}
	})
	m := example()
	steps, _ := rules.Run(m, []api.Input{set(0, 1), wait(2), wait(3)})
	clear(steps[0].State.Values)
	clear(steps[1].State.Over)
	again, _ := rules.Run(m, []api.Input{set(0, 1), wait(2), wait(3)})
	if !reflect.DeepEqual(again[2], steps[2]) {
		t.Errorf("the steps are %v, and then %v", steps, again)
	}
}
