package analyse_test

import (
	"math/rand"
	"slices"
	"testing"

	"domicile/analyse"
	"domicile/api"
	"domicile/replay"
	"domicile/rules"
	"domicile/translate"
)

// each calls a function with random models and their findings.
func each(t *testing.T, seed int64, n int, call func(m maker, model api.Model, findings []api.Finding)) {
	t.Helper()
	m := maker{rand.New(rand.NewSource(seed))}
	count := 0
	for range n {
		model := m.model(2+m.Intn(4), 2+m.Intn(4))
		if findings, err := analyse.Findings(model); err == api.OK {
			count += len(findings)
			call(m, model, findings)
		}
	}
	if count < n {
		t.Errorf("%d models have %d findings", n, count)
	}
}

// groupOf returns the group of a finding.
func groupOf(m api.Model, f api.Finding) []int {
	part := f.First
	if f.Kind == api.FindLaw {
		part = len(m.Rules) + f.Law
	}
	for _, group := range translate.Groups(m) {
		if slices.Contains(group, part) {
			return group
		}
	}
	return nil
}

// P18.2, P18.5: each run leads to its finding with its last step only; findings are ordered and different.
func TestReplay(t *testing.T) {
	each(t, 10, 1500, func(_ maker, model api.Model, findings []api.Finding) {
		for i, f := range findings {
			if i > 0 {
				before := findings[i-1]
				if slices.Compare([]int{before.Kind, before.First, before.Second, before.Var, before.Law}, []int{f.Kind, f.First, f.Second, f.Var, f.Law}) >= 0 {
					t.Errorf("%+v: %+v comes after %+v", model, f, before)
				}
			}
			if f.Kind == api.FindDead {
				if len(f.Run) > 0 || analyse.Holds(model, f) || f.First < 0 || f.Second != -1 || f.Var != -1 || f.Law != -1 {
					t.Errorf("%+v: the finding %+v", model, f)
				}
				continue
			}
			part, _ := translate.Part(model, groupOf(model, f))
			steps, err := rules.Run(part, f.Run)
			if err != api.OK || len(steps) == 0 || !analyse.Holds(model, f) {
				t.Fatalf("%+v: the run of %+v: %v", model, f, err)
			}
			for k, s := range steps {
				if analyse.Shows(model, f, s) != (k == len(steps)-1) {
					t.Errorf("%+v: the step %v of %+v", model, k, f)
				}
			}
			clash, law, endless := f.Kind == api.FindClash, f.Kind == api.FindLaw, f.Kind == api.FindEndless
			if (f.First >= 0) != (clash || endless) || (f.Second >= 0) != clash || (f.Var >= 0) != clash || (f.Law >= 0) != law {
				t.Errorf("%+v: the finding %+v", model, f)
			}
		}
	})
}

// P18.3, P18.4: exploring second by second finds the same, with as few inputs that are no waits.
func TestCompleteness(t *testing.T) {
	compared := 0
	each(t, 11, 700, func(_ maker, model api.Model, findings []api.Finding) {
		for _, group := range translate.Groups(model) {
			part, _ := translate.Part(model, group)
			want, ok := seconds(part)
			if !ok {
				continue
			}
			list, err := analyse.Findings(part)
			if err != api.OK {
				t.Fatalf("%+v: %v", part, err)
			}
			count, dead := 0, 0
			for _, f := range list {
				if f.Kind == api.FindDead {
					dead++
					if want.fired[f.First] {
						t.Errorf("%+v: the rule %v fires", part, f.First)
					}
					continue
				}
				count++
				least, ok := want.least[name(f.Kind, f.First, f.Second, f.Var, f.Law)]
				if !ok || replay.Length(f.Run) != least {
					t.Errorf("%+v: %+v, but %v inputs, %v", part, f, least, ok)
				}
			}
			if count != len(want.least) || dead+len(want.fired) != len(part.Rules) {
				t.Errorf("%+v: %+v, want %+v", part, list, want)
			}
			compared += count
		}
	})
	if compared < 400 {
		t.Errorf("%d findings", compared)
	}
}

// P18.6: the findings about the model of a group are those about the whole model that belong to it.
func TestGroups(t *testing.T) {
	several := 0
	each(t, 12, 1500, func(_ maker, model api.Model, findings []api.Finding) {
		for _, group := range translate.Groups(model) {
			part, _ := translate.Part(model, group)
			list, err := analyse.Findings(part)
			belong := slices.DeleteFunc(slices.Clone(findings), func(f api.Finding) bool {
				return !slices.Equal(groupOf(model, f), group)
			})
			if got := whole(model, group, list); err != api.OK || !same(got, belong) {
				t.Errorf("%+v: the group %v has %+v, %v, want %+v", model, group, got, err, belong)
			}
			if len(belong) > 0 && len(belong) < len(findings) {
				several++
			}
		}
	})
	if several < 500 {
		t.Errorf("%d groups with findings beside others", several)
	}
}

// P18.7: rules of which one is preferred to the other one do not clash.
func TestPreferences(t *testing.T) {
	removed := 0
	each(t, 13, 1500, func(m maker, model api.Model, findings []api.Finding) {
		for _, f := range findings {
			for _, p := range model.Over {
				if f.Kind == api.FindClash && min(p.Winner, p.Loser) == f.First && max(p.Winner, p.Loser) == f.Second {
					t.Errorf("%+v: %+v", model, f)
				}
			}
		}
		if len(findings) == 0 || findings[0].Kind != api.FindClash {
			return
		}
		f := findings[m.Intn(len(findings))]
		if f.Kind != api.FindClash {
			f = findings[0]
		}
		p := api.Pair{Winner: f.First, Loser: f.Second}
		if m.chance(2) {
			p = api.Pair{Winner: f.Second, Loser: f.First}
		}
		model.Over = append(slices.Clone(model.Over), p)
		after, err := analyse.Findings(model)
		if err != api.OK {
			return
		}
		removed++
		if slices.ContainsFunc(after, func(g api.Finding) bool {
			return g.Kind == api.FindClash && g.First == f.First && g.Second == f.Second
		}) {
			t.Errorf("%+v: %+v", model, after)
		}
	})
	if removed < 90 {
		t.Errorf("%d clashes were removed", removed)
	}
}

// P18.8, P18.3: a step shows a clash exactly if it has it; runs without findings have no clash, endless chain or broken law.
func TestSteps(t *testing.T) {
	clashes := 0
	each(t, 14, 1500, func(m maker, model api.Model, findings []api.Finding) {
		s := rules.Start(model)
		for range 10 {
			in, ok := m.input(model, s)
			if !ok {
				break
			}
			step, _ := rules.Apply(model, s, in)
			s = step.State
			// The rules of clashes are in one group; with one group, the positions are the rules.
			if groups := translate.Groups(model); len(groups) != 1 {
				break
			}
			for first := range model.Rules {
				for second := range model.Rules {
					for v := range model.Vars {
						has := slices.Contains(step.Clashes, api.Clash{First: first, Second: second, Var: v})
						f := finding(api.FindClash, first, second, v, -1)
						if analyse.Shows(model, f, step) != has {
							t.Errorf("%+v: %+v shows %+v: %v", model, step, f, !has)
						}
						if has {
							clashes++
						}
					}
				}
			}
			for _, c := range step.Clashes {
				if !slices.ContainsFunc(findings, func(f api.Finding) bool { return same5(f, finding(api.FindClash, c.First, c.Second, c.Var, -1)) }) {
					t.Errorf("%+v: the clash %+v is not among %+v", model, c, findings)
				}
			}
			for _, law := range rules.Broken(model, s) {
				if !slices.ContainsFunc(findings, func(f api.Finding) bool { return f.Kind == api.FindLaw && f.Law == law }) {
					t.Errorf("%+v: the law %v is broken, but not among %+v", model, law, findings)
				}
			}
		}
	})
	if clashes < 50 {
		t.Errorf("%d clashes", clashes)
	}
}
