package quarantine

import (
	"slices"

	"domicile/api"
	"domicile/rules"
)

// removal takes a device out of a well-formed model.
type removal struct {
	model  api.Model
	device int
	// rest has the fallback value of each variable; only those of the device are looked at.
	rest []int
}

func newRemoval(m api.Model, device int) removal {
	r := removal{model: m, device: device}
	for _, v := range m.Vars {
		r.rest = append(r.rest, v.Fallback)
	}
	return r
}

func (r removal) has(v int) bool           { return r.model.Vars[v].Device == r.device }
func (r removal) compares(a api.Atom) bool { return r.has(a.Var) }
func (r removal) sets(s api.Set) bool      { return r.has(s.Var) }

func (r removal) isTriggered(rule api.Rule) bool {
	return rule.Timer == -1 && r.compares(rule.Trigger)
}

// reduce returns the comparisons that are not about the device, and whether the others hold for its fallback values.
func (r removal) reduce(atoms []api.Atom) ([]api.Atom, bool) {
	others, its := divide(atoms, r.compares)
	fails := func(a api.Atom) bool { return !rules.Holds(a, r.rest) }
	return others, !slices.ContainsFunc(its, fails)
}

func (r removal) vars() []api.Var {
	vars := slices.Clone(r.model.Vars)
	for i := range vars {
		if r.has(i) {
			vars[i].Sensor = false
			vars[i].Start = vars[i].Fallback
		}
	}
	return vars
}

// rules returns the rules that are left, and their new indices by the old ones.
func (r removal) rules() ([]api.Rule, map[int]int) {
	var left []api.Rule
	renumbered := map[int]int{}
	for i, rule := range r.model.Rules {
		guard, holds := r.reduce(rule.Guard)
		if r.isTriggered(rule) || !holds {
			continue
		}
		renumbered[i] = len(left)
		rule.Guard = guard
		rule.Sets, _ = divide(rule.Sets, r.sets)
		rule.Starts = slices.Clone(rule.Starts)
		left = append(left, rule)
	}
	return left, renumbered
}

// laws returns the laws that are left, and whether each of them has a comparison left.
func (r removal) laws() ([]api.Law, bool) {
	var left []api.Law
	for _, law := range r.model.Laws {
		cond, holds := r.reduce(law.Cond)
		if !holds {
			continue
		}
		if len(cond) == 0 {
			return nil, false
		}
		law.Cond = cond
		left = append(left, law)
	}
	return left, true
}
