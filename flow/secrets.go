package flow

import (
	"slices"

	"domicile/api"
)

// secrets has, for each variable and for each timer, whether it is hidden.
type secrets struct{ vars, timers []bool }

// newSecrets returns what is hidden in a well-formed model. A rule waits until it is hidden; then its effects are hidden as well, which can concern others that wait.
func newSecrets(m api.Model) secrets {
	s := secrets{vars: make([]bool, len(m.Vars)), timers: make([]bool, m.Timers)}
	for i := range len(m.Vars) {
		s.vars[i] = isPrivate(m.Vars[i])
	}
	waiting := slices.Clone(m.Rules)
	for {
		next := slices.IndexFunc(waiting, s.inRule)
		if next < 0 {
			return s
		}
		s.hideEffects(waiting[next])
		waiting = slices.Delete(waiting, next, next+1)
	}
}

// isPrivate reports whether the readings of a variable are hidden.
func isPrivate(v api.Var) bool { return v.Private && v.Sensor }

// inAtom reports whether a comparison is one of a hidden variable.
func (s secrets) inAtom(a api.Atom) bool { return s.vars[a.Var] }

// inRule reports whether a rule is hidden.
func (s secrets) inRule(r api.Rule) bool {
	triggered := r.Timer == -1 && s.inAtom(r.Trigger) || r.Timer != -1 && s.timers[r.Timer]
	return triggered || slices.ContainsFunc(r.Guard, s.inAtom)
}

// inInput reports whether an input is hidden.
func (s secrets) inInput(in api.Input) bool {
	switch in.Kind {
	case api.InSet:
		return in.Var >= 0 && in.Var < len(s.vars) && s.vars[in.Var]
	case api.InExpire:
		return in.Timer >= 0 && in.Timer < len(s.timers) && s.timers[in.Timer]
	}
	return false
}

// hideEffects hides what a rule sets and starts.
func (s secrets) hideEffects(r api.Rule) {
	for _, set := range r.Sets {
		s.vars[set.Var] = true
	}
	for _, start := range r.Starts {
		s.timers[start.Timer] = true
	}
}
