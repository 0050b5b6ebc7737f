package rules

import "domicile/api"

const (
	// maxSeconds bounds times: the seconds of timers, the bounds of laws, and waits.
	maxSeconds = 86400
	// maxPriority bounds the priorities of rules.
	maxPriority = 100
	// maxAtoms is the greatest number of comparisons of a guard, and of a law.
	maxAtoms = 8
	// maxPairs is the greatest number of preferences.
	maxPairs = 400
)

// Valid reports whether a model is well-formed.
func Valid(m api.Model) bool {
	return len(m.Vars) <= api.MaxVars && every(m.Vars, varValid) &&
		within(m.Timers, 0, api.MaxTimers) &&
		len(m.Rules) <= api.MaxRules && every(m.Rules, func(r api.Rule) bool { return ruleValid(m, r) }) &&
		len(m.Laws) <= api.MaxLaws && every(m.Laws, func(l api.Law) bool { return lawValid(m, l) }) &&
		pairsValid(m)
}

// within reports whether a number is from low to high.
func within(n, low, high int) bool { return low <= n && n <= high }

// every reports whether all elements fit.
func every[T any](list []T, fits func(T) bool) bool {
	for _, element := range list {
		if !fits(element) {
			return false
		}
	}
	return true
}

// varValid reports whether a variable is well-formed.
func varValid(v api.Var) bool {
	return within(v.Size, 1, api.MaxValues) && within(v.Start, 0, v.Size-1) && within(v.Fallback, 0, v.Size-1) &&
		v.Device >= -1 && v.Attr >= -1
}

// ruleValid reports whether a rule of a model is well-formed.
func ruleValid(m api.Model, r api.Rule) bool {
	return within(r.Priority, 0, maxPriority) && triggerValid(m, r) &&
		len(r.Guard) <= maxAtoms && atomsValid(m, r.Guard) &&
		increasing(r.Sets, len(m.Vars), func(s api.Set) int { return s.Var }) &&
		every(r.Sets, func(s api.Set) bool { return within(s.Value, 0, m.Vars[s.Var].Size-1) }) &&
		increasing(r.Starts, m.Timers, func(s api.Start) int { return s.Timer }) &&
		every(r.Starts, func(s api.Start) bool { return within(s.Seconds, 0, maxSeconds) })
}

// triggerValid reports whether a rule has a timer or a comparison as its trigger, and not both.
func triggerValid(m api.Model, r api.Rule) bool {
	if r.Timer == -1 {
		return atomValid(m, r.Trigger)
	}
	return within(r.Timer, 0, m.Timers-1) && r.Trigger == api.Atom{}
}

// increasing reports whether the indices of elements increase, from 0 on, and are less than a count.
func increasing[T any](list []T, count int, index func(T) int) bool {
	last := -1
	for _, element := range list {
		if !within(index(element), last+1, count-1) {
			return false
		}
		last = index(element)
	}
	return true
}

// lawValid reports whether a law of a model is well-formed.
func lawValid(m api.Model, l api.Law) bool {
	return within(len(l.Cond), 1, maxAtoms) && atomsValid(m, l.Cond) && within(l.Bound, 0, maxSeconds)
}

// atomsValid reports whether comparisons are well-formed.
func atomsValid(m api.Model, list []api.Atom) bool {
	return every(list, func(a api.Atom) bool { return atomValid(m, a) })
}

// atomValid reports whether a comparison is well-formed. A bound can be one more than the greatest value, a value that is asked for cannot.
func atomValid(m api.Model, a api.Atom) bool {
	if !within(a.Var, 0, len(m.Vars)-1) || !within(a.Op, api.OpEq, api.OpGe) {
		return false
	}
	most := m.Vars[a.Var].Size
	if a.Op == api.OpEq || a.Op == api.OpNe {
		most--
	}
	return within(a.Value, 0, most)
}

// pairsValid reports whether the preferences of a model are well-formed.
func pairsValid(m api.Model) bool {
	if len(m.Over) > maxPairs {
		return false
	}
	seen := map[api.Pair]bool{}
	last := len(m.Rules) - 1
	return every(m.Over, func(p api.Pair) bool {
		if !within(p.Winner, 0, last) || !within(p.Loser, 0, last) || p.Winner == p.Loser || seen[p] || seen[inverse(p)] {
			return false
		}
		seen[p] = true
		return true
	})
}

// inverse returns a pair with its rules exchanged.
func inverse(p api.Pair) api.Pair { return api.Pair{Winner: p.Loser, Loser: p.Winner} }

// stateValid reports whether a state is well-formed for a well-formed model.
func stateValid(m api.Model, s api.State) bool {
	if len(s.Values) != len(m.Vars) || len(s.Left) != m.Timers || len(s.Over) != len(m.Laws) {
		return false
	}
	for i, v := range m.Vars {
		if !within(s.Values[i], 0, v.Size-1) {
			return false
		}
	}
	for i, l := range m.Laws {
		if !overValid(l, s.Over[i], s.Values) {
			return false
		}
	}
	return every(s.Left, func(left int) bool { return within(left, -1, maxSeconds) })
}

// overValid reports whether a law can have held for some seconds, with values that are well-formed.
func overValid(l api.Law, over int, values []int) bool {
	if !allHold(l.Cond, values) {
		return over == -1
	}
	return within(over, 0, l.Bound+1)
}
