package cause

import (
	"iter"
	"slices"

	"domicile/analyse"
	"domicile/api"
)

// findingsWith returns the findings about the model with some rules.
func findingsWith(m api.Model, set []int) ([]api.Finding, api.Errno) {
	part, err := Restrict(m, set)
	if err != api.OK {
		return nil, err
	}
	return analyse.Findings(part)
}

// matcher returns a function that reports whether a finding about the model with some rules is a given one.
func matcher(f api.Finding, set []int) func(api.Finding) bool {
	position := positions(set)
	first, hasFirst := position[f.First]
	second, hasSecond := position[f.Second]
	return func(g api.Finding) bool {
		if g.Kind != f.Kind {
			return false
		}
		switch f.Kind {
		case api.FindClash:
			return hasFirst && hasSecond && g.First == first && g.Second == second && g.Var == f.Var
		case api.FindLaw:
			return g.Law == f.Law
		}
		return true
	}
}

// search returns the first set of rules of a group, from the smallest ones on, with which a finding is there. With all of them it is.
func search(m api.Model, f api.Finding, group []int) []int {
	cause := group
smallest:
	for set := range sets(group) {
		if f.Kind == api.FindClash && !(slices.Contains(set, f.First) && slices.Contains(set, f.Second)) {
			// Rules clash only if they are there, so that nothing has to be analysed.
			continue
		}
		found, _ := findingsWith(m, set)
		is := matcher(f, set)
		for _, g := range found {
			if is(g) {
				cause = set
				break smallest
			}
		}
	}
	return slices.Clone(cause)
}

// sets yields the sets of elements of a list in increasing order, first by their size, and then lexicographically.
func sets(list []int) iter.Seq[[]int] {
	return func(yield func([]int) bool) {
		for size := range len(list) + 1 {
			if !extend(nil, list, size, yield) {
				return
			}
		}
	}
}

// extend yields the sets that begin with some elements, and have more of them from a list. It reports whether more sets are wanted.
func extend(set, list []int, more int, yield func([]int) bool) bool {
	if more == 0 {
		return yield(set)
	}
	for i := range list {
		if len(list)-i < more {
			break
		}
		if !extend(append(slices.Clone(set), list[i]), list[i+1:], more-1, yield) {
			return false
		}
	}
	return true
}
