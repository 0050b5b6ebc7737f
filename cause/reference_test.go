package cause_test

import (
	"cmp"
	"math/bits"
	"slices"

	"domicile/analyse"
	"domicile/api"
	"domicile/translate"
)

// refRestrict returns the model with some rules of a well-formed model.
func refRestrict(m api.Model, set []int) api.Model {
	n := api.Model{Vars: m.Vars, Timers: m.Timers, Laws: m.Laws}
	for i, r := range m.Rules {
		if slices.Contains(set, i) {
			n.Rules = append(n.Rules, r)
		}
	}
	for _, p := range m.Over {
		if winner, loser := slices.Index(set, p.Winner), slices.Index(set, p.Loser); winner >= 0 && loser >= 0 {
			n.Over = append(n.Over, api.Pair{Winner: winner, Loser: loser})
		}
	}
	return n
}

// refThere says whether a finding is there with some rules, and the error of the analysis.
func refThere(m api.Model, f api.Finding, set []int) (bool, api.Errno) {
	list, err := analyse.Findings(refRestrict(m, set))
	for _, g := range list {
		if g.First >= 0 {
			g.First = set[g.First]
		}
		if g.Second >= 0 {
			g.Second = set[g.Second]
		}
		if g.Kind != f.Kind {
			continue
		}
		if f.Kind == api.FindEndless || f.Kind == api.FindLaw && g.Law == f.Law || f.Kind == api.FindClash && g.First == f.First && g.Second == f.Second && g.Var == f.Var {
			return true, err
		}
	}
	return false, err
}

// refGroup returns the rules of the group of a finding.
func refGroup(m api.Model, f api.Finding) []int {
	part := f.First
	if f.Kind == api.FindLaw {
		part = len(m.Rules) + f.Law
	}
	var list []int
	for _, group := range translate.Groups(m) {
		for _, p := range group {
			if slices.Contains(group, part) && p < len(m.Rules) {
				list = append(list, p)
			}
		}
	}
	return list
}

// refSets returns all sets of elements of a list, by size and then lexicographically.
func refSets(list []int) [][]int {
	var sets [][]int
	for mask := range 1 << len(list) {
		var set []int
		for i, e := range list {
			if mask>>i&1 == 1 {
				set = append(set, e)
			}
		}
		if len(set) != bits.OnesCount(uint(mask)) {
			panic("a set")
		}
		sets = append(sets, set)
	}
	slices.SortFunc(sets, func(a, b []int) int {
		return cmp.Or(cmp.Compare(len(a), len(b)), slices.Compare(a, b))
	})
	return sets
}

// refSmallest returns the smallest cause of a finding that has a kind with causes.
func refSmallest(m api.Model, f api.Finding) ([]int, api.Errno) {
	group := refGroup(m, f)
	if len(group) > 10 {
		return nil, api.ErrLimit
	}
	there, err := refThere(m, f, group)
	if err != api.OK {
		return nil, err
	}
	if !there {
		return nil, api.ErrNone
	}
	for _, set := range refSets(group) {
		if there, _ := refThere(m, f, set); there {
			return set, api.OK
		}
	}
	panic("no cause")
}
