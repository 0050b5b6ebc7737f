package cause_test

import (
	"math/rand"
	"slices"
	"testing"

	"domicile/analyse"
	"domicile/api"
	"domicile/cause"
	"domicile/rules"
	"domicile/translate"
)

// P19.2, P19.3, P19.4, P19.7: every finding has a smallest cause; it suffices, and nothing smaller does; that of a clash has both rules.
func TestSmallest(t *testing.T) {
	x := maker{rand.New(rand.NewSource(10))}
	causes, smaller := 0, 0
	for range 400 {
		model := x.model(2+x.Intn(3), 2+x.Intn(3))
		list, err := analyse.Findings(model)
		if err != api.OK {
			continue
		}
		for _, f := range list {
			if f.Kind == api.FindDead {
				continue
			}
			group := refGroup(model, f)
			if _, err := analyse.Findings(refRestrict(model, group)); err != api.OK || len(group) > 10 {
				continue
			}
			set, err := cause.Smallest(model, f)
			if err != api.OK {
				t.Fatalf("%+v: %+v has no cause: %v", model, f, err)
			}
			causes++
			for _, rule := range set {
				if !slices.Contains(group, rule) {
					t.Errorf("%+v: the cause %v of %+v is not in its group", model, set, f)
				}
			}
			if there, _ := refThere(model, f, set); !there {
				t.Errorf("%+v: with %v there is no %+v", model, set, f)
			}
			for _, other := range refSets(group) {
				if slices.Equal(other, set) {
					break
				}
				smaller++
				if there, _ := refThere(model, f, other); there {
					t.Errorf("%+v: %v is less than the cause %v of %+v", model, other, set, f)
				}
			}
			if f.Kind == api.FindClash && (!slices.Contains(set, f.First) || !slices.Contains(set, f.Second)) {
				t.Errorf("%+v: the cause %v of %+v", model, set, f)
			}
		}
	}
	if causes < 200 || smaller < 1000 {
		t.Errorf("%d causes, %d smaller sets", causes, smaller)
	}
}

// P19.5: with all rules, a model is itself; with some of some rules, it is the model with these.
func TestSomeRules(t *testing.T) {
	x := maker{rand.New(rand.NewSource(11))}
	for range 2000 {
		model := x.model(2+x.Intn(3), 2+x.Intn(3))
		var all, some, positions, fewer []int
		for i := range model.Rules {
			all = append(all, i)
			if x.chance(3) {
				continue
			}
			if x.chance(2) {
				positions = append(positions, len(some))
				fewer = append(fewer, i)
			}
			some = append(some, i)
		}
		if got, err := cause.Restrict(model, all); err != api.OK || !same(got, model) {
			t.Errorf("%+v with all rules is %+v", model, got)
		}
		part, _ := cause.Restrict(model, some)
		first, errFirst := cause.Restrict(part, positions)
		second, errSecond := cause.Restrict(model, fewer)
		if errFirst != api.OK || errSecond != api.OK || !rules.Valid(part) || !same(first, second) {
			t.Errorf("%+v with %v is %+v, and %+v", model, fewer, first, second)
		}
	}
}

// P19.6: the model with the rules that fire in a run does the same in it; a smallest cause has at most as many rules as fire.
func TestRulesThatFire(t *testing.T) {
	x := maker{rand.New(rand.NewSource(12))}
	fewer, bounded := 0, 0
	for range 700 {
		model := x.model(2+x.Intn(4), 2+x.Intn(3))
		list, _ := analyse.Findings(model)
		for _, f := range list {
			if f.Kind == api.FindDead {
				continue
			}
			group := refGroup(model, f)
			part := refRestrict(model, group)
			set := firing(part, f.Run)
			fewer += len(part.Rules) - len(set)
			sameSteps(t, part, f.Run, set)
			for i, position := range set {
				set[i] = group[position]
			}
			smallest, err := cause.Smallest(model, f)
			if _, errSet := analyse.Findings(refRestrict(model, set)); errSet != api.OK || err == api.ErrLimit {
				continue
			}
			bounded++
			if err != api.OK || len(smallest) > len(set) {
				t.Errorf("%+v: the cause %v, %v of %+v, in whose run %v fire", model, smallest, err, f, set)
			}
		}
	}
	if fewer < 500 || bounded < 200 {
		t.Errorf("%d rules do not fire, %d causes", fewer, bounded)
	}
}

// firing returns the rules that fire in a run.
func firing(model api.Model, l []api.Input) []int {
	steps, _ := rules.Run(model, l)
	var set []int
	for _, s := range steps {
		for _, f := range s.Firings {
			set = append(set, f.Rule)
		}
	}
	slices.Sort(set)
	return slices.Compact(set)
}

// sameSteps checks that the model with some rules has the same states and clashes in a run.
func sameSteps(t *testing.T, model api.Model, l []api.Input, set []int) {
	t.Helper()
	steps, _ := rules.Run(model, l)
	part, _ := cause.Restrict(model, set)
	others, err := rules.Run(part, l)
	if err != api.OK || len(others) != len(steps) {
		t.Fatalf("%+v with %v: %v", model, set, err)
	}
	for i, s := range steps {
		for k, c := range others[i].Clashes {
			others[i].Clashes[k].First, others[i].Clashes[k].Second = set[c.First], set[c.Second]
		}
		if !same(others[i].State, s.State) || !same(others[i].Clashes, s.Clashes) || others[i].Endless != s.Endless {
			t.Errorf("%+v with %v: %+v, and not %+v", model, set, others[i], s)
		}
	}
	if len(translate.Groups(model)) == 0 {
		t.Errorf("%+v has no groups", model)
	}
}
