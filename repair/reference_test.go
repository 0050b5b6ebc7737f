package repair_test

import (
	"slices"

	"domicile/analyse"
	"domicile/api"
	"domicile/rules"
)

// refPrefer returns the model with one more pair.
func refPrefer(m api.Model, winner, loser int) (api.Model, api.Errno) {
	if !rules.Valid(m) || min(winner, loser) < 0 || max(winner, loser) >= len(m.Rules) || winner == loser {
		return api.Model{}, api.ErrArg
	}
	for _, p := range m.Over {
		if p.Winner == winner && p.Loser == loser || p.Winner == loser && p.Loser == winner {
			return api.Model{}, api.ErrTwice
		}
	}
	if len(m.Over) == 400 {
		return api.Model{}, api.ErrLimit
	}
	m.Over = append(slices.Clone(m.Over), api.Pair{Winner: winner, Loser: loser})
	return m, api.OK
}

// refRestrain returns the model with one more comparison.
func refRestrain(m api.Model, rule int, a api.Atom) (api.Model, api.Errno) {
	bad := !rules.Valid(m) || rule < 0 || rule >= len(m.Rules) || a.Var < 0 || a.Var >= len(m.Vars) || a.Op < 1 || a.Op > 6
	if bad || a.Value < 0 || a.Value > m.Vars[a.Var].Size || a.Value == m.Vars[a.Var].Size && a.Op <= api.OpNe {
		return api.Model{}, api.ErrArg
	}
	if len(m.Rules[rule].Guard) == 8 {
		return api.Model{}, api.ErrLimit
	}
	m.Rules = slices.Clone(m.Rules)
	m.Rules[rule].Guard = append(slices.Clone(m.Rules[rule].Guard), a)
	return m, api.OK
}

// refRepair returns the repaired model and the pairs.
func refRepair(m api.Model) (api.Model, []api.Pair, api.Errno) {
	list, err := analyse.Findings(m)
	var added []api.Pair
	for _, f := range list {
		p := api.Pair{Winner: f.First, Loser: f.Second}
		if f.Kind == api.FindClash && !slices.Contains(m.Over, p) && !slices.Contains(added, p) {
			added = append(added, p)
		}
	}
	if err == api.OK && len(m.Over)+len(added) > 400 {
		err = api.ErrLimit
	}
	if err != api.OK {
		return api.Model{}, nil, err
	}
	m.Over = slices.Concat(m.Over, added)
	return m, added, api.OK
}
