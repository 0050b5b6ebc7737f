package repair_test

import (
	"math/rand"
	"slices"
	"testing"

	"domicile/analyse"
	"domicile/api"
	"domicile/repair"
	"domicile/rules"
	"domicile/translate"
)

// each calls a function with random models that are repaired, and the pairs that are added to them.
func each(t *testing.T, seed int64, n, least int, call func(m maker, model, repaired api.Model, added []api.Pair)) {
	t.Helper()
	m := maker{rand.New(rand.NewSource(seed))}
	pairs := 0
	for range n {
		model := m.model(2+m.Intn(4), 2+m.Intn(3))
		repaired, added, err := repair.Repair(model)
		if err == api.OK {
			pairs += len(added)
			call(m, model, repaired, added)
		}
	}
	if pairs < least {
		t.Errorf("%d pairs were added", pairs)
	}
}

// findings returns the findings about a model: the clashes, and the others.
func findings(t *testing.T, m api.Model) (clashes, others []api.Finding) {
	t.Helper()
	list, err := analyse.Findings(m)
	if err != api.OK {
		t.Fatalf("%+v: %v", m, err)
	}
	for _, f := range list {
		if f.Kind == api.FindClash {
			clashes = append(clashes, f)
		} else {
			others = append(others, f)
		}
	}
	return clashes, others
}

// P20.2, P20.4: a repaired model has no clash, and the same other findings with the same runs; it needs no further repair.
func TestNoClashes(t *testing.T) {
	each(t, 10, 1500, 100, func(_ maker, model, repaired api.Model, _ []api.Pair) {
		_, before := findings(t, model)
		clashes, after := findings(t, repaired)
		if len(clashes) > 0 || !same(before, after) {
			t.Errorf("%+v: the findings %+v became %+v and %+v", model, before, clashes, after)
		}
		again, added, err := repair.Repair(repaired)
		if err != api.OK || len(added) > 0 || !same(again, repaired) {
			t.Errorf("%+v: repairing it again adds %v, %v", repaired, added, err)
		}
	})
}

// P20.3: in every run both models do the same, without clashes between rules of one group.
func TestSameSteps(t *testing.T) {
	clashes := 0
	each(t, 11, 1500, 100, func(m maker, model, repaired api.Model, _ []api.Pair) {
		s := rules.Start(model)
		for range 25 {
			in, ok := m.input(model, s)
			if !ok {
				break
			}
			step, _ := rules.Apply(model, s, in)
			other, err := rules.Apply(repaired, s, in)
			clashes += len(step.Clashes)
			for _, c := range other.Clashes {
				for _, group := range translate.Groups(model) {
					if slices.Contains(group, c.First) && slices.Contains(group, c.Second) {
						t.Errorf("%+v: the clash %+v", repaired, c)
					}
				}
			}
			step.Clashes, other.Clashes = nil, nil
			if err != api.OK || !same(step, other) {
				t.Errorf("%+v: %+v, %v, want %+v", repaired, other, err, step)
			}
			s = step.State
		}
	})
	if clashes < 100 {
		t.Errorf("%d clashes", clashes)
	}
}

// P20.5: without one of the pairs, exactly the clashes between its rules are found.
func TestNecessaryPairs(t *testing.T) {
	each(t, 12, 1500, 100, func(_ maker, model, repaired api.Model, added []api.Pair) {
		for i, pair := range added {
			less := repaired
			less.Over = slices.Concat(model.Over, added[:i], added[i+1:])
			clashes, _ := findings(t, less)
			if len(clashes) == 0 {
				t.Errorf("%+v: the pair %+v is not necessary", repaired, pair)
			}
			for _, f := range clashes {
				if f.First != pair.Winner || f.Second != pair.Loser {
					t.Errorf("%+v without the pair %+v: %+v", repaired, pair, f)
				}
			}
		}
	})
}

// opposed says whether two rules fire in one wave of a step and command a variable to different values with the same priority.
func opposed(m api.Model, step api.Step, a, b int) bool {
	if m.Rules[a].Priority != m.Rules[b].Priority {
		return false
	}
	for _, f := range step.Firings {
		if f.Rule != a || !slices.Contains(step.Firings, api.Firing{Wave: f.Wave, Rule: b}) {
			continue
		}
		for _, x := range m.Rules[a].Sets {
			for _, y := range m.Rules[b].Sets {
				if x.Var == y.Var && x.Value != y.Value {
					return true
				}
			}
		}
	}
	return false
}

// P20.6: preferring changes no step in which both rules are not opposed, and there is no clash between both.
func TestPreferring(t *testing.T) {
	equal, changed := 0, 0
	m := maker{rand.New(rand.NewSource(13))}
	for range 3000 {
		model := m.model(2+m.Intn(3), 2)
		if len(model.Rules) < 2 {
			continue
		}
		winner := m.Intn(len(model.Rules))
		loser := (winner + 1 + m.Intn(len(model.Rules)-1)) % len(model.Rules)
		preferred, err := repair.Prefer(model, winner, loser)
		if err != api.OK {
			continue
		}
		s := rules.Start(model)
		for range 12 {
			in, ok := m.input(model, s)
			if !ok {
				break
			}
			step, _ := rules.Apply(model, s, in)
			other, err := rules.Apply(preferred, s, in)
			if err != api.OK || !opposed(model, step, winner, loser) && !same(step, other) {
				t.Errorf("%+v: preferring %v to %v leads to %+v, not %+v", model, winner, loser, other, step)
			}
			if same(step, other) {
				equal++
			} else {
				changed++
			}
			for _, c := range other.Clashes {
				if c.First == min(winner, loser) && c.Second == max(winner, loser) {
					t.Errorf("%+v: the clash %+v", preferred, c)
				}
			}
			s = step.State
		}
	}
	if equal < 5000 || changed < 30 {
		t.Errorf("%d steps are the same, %d are not", equal, changed)
	}
}

// P20.7: a comparison that always holds changes nothing; one that never holds keeps the rule from firing, and the others do what they do, if it has no effects.
func TestRestraining(t *testing.T) {
	fired := 0
	m := maker{rand.New(rand.NewSource(14))}
	for range 2000 {
		model := m.model(2+m.Intn(3), 2)
		if len(model.Rules) == 0 {
			continue
		}
		rule := m.Intn(len(model.Rules))
		always, errAlways := repair.Restrain(model, rule, api.Atom{Op: api.OpLe, Value: 3 - 1})
		never, errNever := repair.Restrain(model, rule, api.Atom{Op: api.OpLt})
		idle := model
		idle.Rules = slices.Clone(model.Rules)
		idle.Rules[rule].Sets, idle.Rules[rule].Starts = nil, nil
		idleNever, errIdle := repair.Restrain(idle, rule, api.Atom{Op: api.OpLt})
		if errAlways != api.OK || errNever != api.OK || errIdle != api.OK {
			t.Fatalf("%+v: %v, %v, %v", model, errAlways, errNever, errIdle)
		}
		fires := func(f api.Firing) bool { return f.Rule == rule }
		s := rules.Start(model)
		for range 10 {
			in, ok := m.input(model, s)
			if !ok {
				break
			}
			step, _ := rules.Apply(model, s, in)
			if other, _ := rules.Apply(always, s, in); !same(step, other) {
				t.Errorf("%+v: with a comparison that always holds %+v, not %+v", model, other, step)
			}
			if other, _ := rules.Apply(never, s, in); slices.ContainsFunc(other.Firings, fires) {
				t.Errorf("%+v: the rule %v fires in %+v", never, rule, other)
			}
			with, _ := rules.Apply(idle, s, in)
			without, _ := rules.Apply(idleNever, s, in)
			if slices.ContainsFunc(with.Firings, fires) {
				fired++
			}
			with.Firings = slices.DeleteFunc(with.Firings, fires)
			if !same(with, without) {
				t.Errorf("%+v: without effects of the rule %v %+v, not %+v", model, rule, without, with)
			}
			s = step.State
		}
	}
	if fired < 1000 {
		t.Errorf("the rule fired %d times", fired)
	}
}
