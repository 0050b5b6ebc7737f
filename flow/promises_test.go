package flow_test

import (
	"math/rand"
	"slices"
	"testing"

	"domicile/api"
	"domicile/flow"
	"domicile/rules"
)

// closed says whether sets contain the private sensors, and what each rule sets and starts that is hidden by them.
func closed(m api.Model, vars, timers []bool) bool {
	for i, v := range m.Vars {
		if v.Private && v.Sensor && !vars[i] {
			return false
		}
	}
	for _, r := range m.Rules {
		if !refHiddenRule(r, vars, timers) {
			continue
		}
		if slices.ContainsFunc(r.Sets, func(e api.Set) bool { return !vars[e.Var] }) || slices.ContainsFunc(r.Starts, func(e api.Start) bool { return !timers[e.Timer] }) {
			return false
		}
	}
	return true
}

// within says whether each true element of one list is true in another one.
func within(a, b []bool) bool {
	for i := range a {
		if a[i] && !b[i] {
			return false
		}
	}
	return true
}

// P21.2: what is hidden is closed, and in every closed set.
func TestLeast(t *testing.T) {
	m := maker{rand.New(rand.NewSource(10))}
	sets := 0
	for range 5000 {
		model := m.model(1+m.Intn(5), 2+m.Intn(3))
		vars, timers := flow.Hidden(model)
		if !closed(model, vars, timers) {
			t.Errorf("%+v: %v, %v are not closed", model, vars, timers)
		}
		for range 20 {
			otherVars, otherTimers := make([]bool, len(vars)), make([]bool, len(timers))
			for i := range otherVars {
				otherVars[i] = !m.chance(3)
			}
			for i := range otherTimers {
				otherTimers[i] = !m.chance(3)
			}
			if !closed(model, otherVars, otherTimers) {
				continue
			}
			sets++
			if !within(vars, otherVars) || !within(timers, otherTimers) {
				t.Errorf("%+v: %v, %v are not within %v, %v", model, vars, timers, otherVars, otherTimers)
			}
		}
	}
	if sets < 5000 {
		t.Errorf("%d closed sets", sets)
	}
}

// P21.3: there is no leak exactly if no shown variable is hidden; what each leak is.
func TestLeaks(t *testing.T) {
	m := maker{rand.New(rand.NewSource(11))}
	safe, unsafe := 0, 0
	for range 10000 {
		model := m.model(1+m.Intn(5), 2+m.Intn(4))
		vars, timers := flow.Hidden(model)
		shown := false
		for i, v := range model.Vars {
			shown = shown || v.Shown && vars[i]
		}
		leaks := flow.Leaks(model)
		if (len(leaks) > 0) != shown {
			t.Errorf("%+v: the leaks are %v, hidden %v", model, leaks, vars)
		}
		if shown {
			unsafe++
		} else {
			safe++
		}
		for _, l := range leaks {
			v := model.Vars[l.Var]
			if l.Rule == -1 {
				if !v.Shown || !v.Private || !v.Sensor {
					t.Errorf("%+v: the leak %+v", model, l)
				}
				continue
			}
			r := model.Rules[l.Rule]
			if !v.Shown || !refHiddenRule(r, vars, timers) || !slices.ContainsFunc(r.Sets, func(e api.Set) bool { return e.Var == l.Var }) {
				t.Errorf("%+v: the leak %+v", model, l)
			}
		}
	}
	if min(safe, unsafe) < 2000 {
		t.Errorf("%d models without leaks, %d with some", safe, unsafe)
	}
}

// secret is a run that has given purged inputs, and hidden ones of its own.
type secret struct {
	maker
	model  api.Model
	vars   []bool
	timers []bool
	state  api.State
	run    []api.Input
}

// do applies an input, and reports whether it is permitted.
func (s *secret) do(in api.Input) bool {
	step, err := rules.Apply(s.model, s.state, in)
	if err == api.OK {
		s.state = step.State
		s.run = append(s.run, in)
	}
	return err == api.OK
}

// whisper applies hidden inputs: always those of timers that have expired, others by chance.
func (s *secret) whisper() {
	for range 3 {
		for _, in := range rules.Inputs(s.model, s.state) {
			if in.Kind == api.InExpire && s.timers[in.Timer] || in.Kind == api.InSet && s.vars[in.Var] && s.chance(4) {
				s.do(in)
			}
		}
	}
}

// wait waits for some seconds, in parts and with hidden inputs between.
func (s *secret) wait(n int) bool {
	for n > 0 {
		s.whisper()
		part := 1 + s.Intn(n)
		for part > 1 && !s.do(wait(part)) {
			part--
		}
		if part == 1 && !s.do(wait(1)) {
			return false
		}
		n -= part
	}
	return true
}

// follow applies purged inputs, with hidden ones between.
func (s *secret) follow(l []api.Input) bool {
	s.state = rules.Start(s.model)
	for _, in := range l {
		s.whisper()
		if in.Kind == api.InWait {
			if !s.wait(in.Seconds) {
				return false
			}
		} else if !s.do(in) {
			return false
		}
	}
	s.whisper()
	return true
}

// P21.4, P21.5, P21.6: two runs with the same purged inputs have the same visible values and timers; without leaks, they have the same views.
func TestNoninterference(t *testing.T) {
	m := maker{rand.New(rand.NewSource(12))}
	runs, different, views := 0, 0, 0
	for range 6000 {
		model := m.model(2+m.Intn(4), 2+m.Intn(3))
		vars, timers := flow.Hidden(model)
		var l []api.Input
		s := rules.Start(model)
		for range 8 {
			in, ok := m.input(model, s)
			if !ok {
				break
			}
			step, _ := rules.Apply(model, s, in)
			s = step.State
			l = append(l, in)
		}
		purged := flow.Purge(model, l)
		other := secret{maker: m, model: model, vars: vars, timers: timers}
		if !other.follow(purged) || len(other.run) > 400 {
			continue
		}
		if got := flow.Purge(model, other.run); !slices.Equal(got, purged) {
			t.Fatalf("%+v: the purged inputs of %v are %v, want %v", model, other.run, got, purged)
		}
		runs++
		if !slices.Equal(s.Values, other.state.Values) {
			different++
		}
		for i, hidden := range vars {
			if !hidden && s.Values[i] != other.state.Values[i] {
				t.Errorf("%+v: after %v and %v the variable %v is different", model, l, other.run, i)
			}
		}
		for i, hidden := range timers {
			if !hidden && s.Left[i] != other.state.Left[i] {
				t.Errorf("%+v: after %v and %v the timer %v is different", model, l, other.run, i)
			}
		}
		if len(flow.Leaks(model)) == 0 {
			views++
			if !slices.Equal(flow.View(model, s), flow.View(model, other.state)) {
				t.Errorf("%+v: after %v and %v the views are different", model, l, other.run)
			}
		}
	}
	if runs < 2000 || different < 300 || views < 500 {
		t.Errorf("%d runs, %d of them with different hidden values, %d without leaks", runs, different, views)
	}
}

// seconds returns the sum of all waits from 1 to 86400 seconds.
func seconds(l []api.Input) int {
	n := 0
	for _, in := range l {
		if in.Kind == api.InWait && in.Seconds >= 1 && in.Seconds <= 86400 {
			n += in.Seconds
		}
	}
	return n
}

// P21.6: purged inputs have no hidden one, are their own purged inputs, and wait as long.
func TestPurging(t *testing.T) {
	m := maker{rand.New(rand.NewSource(13))}
	for range 10000 {
		model := m.model(1+m.Intn(5), 2)
		l := m.inputs(model, m.Intn(12))
		vars, timers := flow.Hidden(model)
		purged := flow.Purge(model, l)
		if seconds(purged) != seconds(l) || !slices.Equal(flow.Purge(model, purged), purged) {
			t.Errorf("%+v: Purge(%v) = %v", model, l, purged)
		}
		for _, in := range purged {
			if in.Kind == api.InSet && in.Var >= 0 && in.Var < len(vars) && vars[in.Var] || in.Kind == api.InExpire && in.Timer >= 0 && in.Timer < len(timers) && timers[in.Timer] {
				t.Errorf("%+v: Purge(%v) = %v", model, l, purged)
			}
		}
	}
}

// P21.7: with one more private variable, or one more rule, nothing hidden becomes visible.
func TestMore(t *testing.T) {
	m := maker{rand.New(rand.NewSource(14))}
	more := 0
	for range 5000 {
		model := m.model(1+m.Intn(5), 2+m.Intn(3))
		vars, timers := flow.Hidden(model)
		private := model
		private.Vars = slices.Clone(model.Vars)
		private.Vars[m.Intn(len(private.Vars))].Private = true
		longer := model
		longer.Rules = append(slices.Clone(model.Rules), m.rule(model, 2))
		for _, n := range []api.Model{private, longer} {
			otherVars, otherTimers := flow.Hidden(n)
			if !within(vars, otherVars) || !within(timers, otherTimers) {
				t.Errorf("%+v hides %v, %v, and %+v only %v, %v", model, vars, timers, n, otherVars, otherTimers)
			}
			if !slices.Equal(vars, otherVars) {
				more++
			}
		}
	}
	if more < 500 {
		t.Errorf("%d models hide more", more)
	}
}

// P21.8: without private sensors nothing is hidden, and purging only joins waits.
func TestVisible(t *testing.T) {
	m := maker{rand.New(rand.NewSource(15))}
	for range 5000 {
		model := m.model(1+m.Intn(5), 2)
		for i := range model.Vars {
			if model.Vars[i].Sensor {
				model.Vars[i].Private = false
			}
		}
		vars, timers := flow.Hidden(model)
		if slices.Contains(vars, true) || slices.Contains(timers, true) || len(vars) != len(model.Vars) || len(timers) != model.Timers {
			t.Errorf("%+v hides %v, %v", model, vars, timers)
		}
		l := m.inputs(model, m.Intn(12))
		noWait := func(in api.Input) bool { return in.Kind == api.InWait }
		before, after := slices.DeleteFunc(slices.Clone(l), noWait), slices.DeleteFunc(flow.Purge(model, l), noWait)
		if !slices.Equal(before, after) {
			t.Errorf("%+v: Purge(%v) keeps %v", model, l, after)
		}
	}
}
