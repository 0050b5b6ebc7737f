package repair

import (
	"slices"

	"domicile/api"
	"domicile/rules"
)

const (
	mostPairs = 400 // pairs of a model
	mostGuard = 8   // comparisons of a rule's guard
)

// change changes a model, or returns an error.
type change func(m *api.Model) api.Errno

// changed returns a copy of a well-formed model after changes, one after the other, or the error of the first one that has one.
func changed(m api.Model, changes ...change) (result api.Model, err api.Errno) {
	defer func() {
		if err != api.OK {
			result = api.Model{}
		}
	}()
	if !rules.Valid(m) {
		return result, api.ErrArg
	}
	result = copyModel(m)
	for _, c := range changes {
		if err = c(&result); err != api.OK {
			return result, err
		}
	}
	return result, api.OK
}

// copyModel returns a model that shares no memory with the given one.
func copyModel(m api.Model) api.Model {
	m.Vars, m.Rules, m.Laws, m.Over = slices.Clone(m.Vars), slices.Clone(m.Rules), slices.Clone(m.Laws), slices.Clone(m.Over)
	for i := range m.Rules {
		r := &m.Rules[i]
		r.Guard, r.Sets, r.Starts = slices.Clone(r.Guard), slices.Clone(r.Sets), slices.Clone(r.Starts)
	}
	for i := range m.Laws {
		m.Laws[i].Cond = slices.Clone(m.Laws[i].Cond)
	}
	return m
}

// require returns the change that changes nothing, but has an error if a condition does not hold.
func require(holds func(m api.Model) bool, err api.Errno) change {
	return func(m *api.Model) api.Errno {
		if !holds(*m) {
			return err
		}
		return api.OK
	}
}

// prefer returns the change by which a rule is preferred to another one.
func prefer(pair api.Pair) change {
	inverse := api.Pair{Winner: pair.Loser, Loser: pair.Winner}
	return func(m *api.Model) api.Errno {
		switch {
		case pair == inverse:
			return api.ErrArg
		case slices.Contains(m.Over, pair) || slices.Contains(m.Over, inverse):
			return api.ErrTwice
		case len(m.Over) >= mostPairs:
			return api.ErrLimit
		}
		m.Over = append(m.Over, pair)
		return api.OK
	}
}

// restrain returns the change by which a rule has one more comparison in its guard.
func restrain(rule int, a api.Atom) change {
	return func(m *api.Model) api.Errno {
		r := &m.Rules[rule]
		if len(r.Guard) >= mostGuard {
			return api.ErrLimit
		}
		r.Guard = append(r.Guard, a)
		return api.OK
	}
}
