package machine

import (
	"slices"

	"domicile/api"
)

// maxSeconds bounds what is left of a timer, and a wait.
const maxSeconds = 86400

// stateValid reports whether a state is well-formed for a valid program.
func stateValid(t table, p api.Program, s api.State) bool {
	if len(s.Values) != len(p.Vars) || len(s.Left) != p.Timers || len(s.Over) != len(p.Laws) {
		return false
	}
	for i, v := range p.Vars {
		if !within(s.Values[i], 0, v.Size-1) {
			return false
		}
	}
	for _, left := range s.Left {
		if !within(left, -1, maxSeconds) {
			return false
		}
	}
	for i, l := range p.Laws {
		counts := s.Over[i] != -1
		if counts != t.value(l.Cond, s.Values) || !within(s.Over[i], -1, l.Bound+1) {
			return false
		}
	}
	return true
}

// permitted reports whether an input is permitted in a state.
func permitted(p api.Program, s api.State, in api.Input) bool {
	switch in.Kind {
	case api.InSet:
		return within(in.Var, 0, len(p.Vars)-1) && p.Vars[in.Var].Sensor &&
			within(in.Value, 0, p.Vars[in.Var].Size-1) && in.Value != s.Values[in.Var]
	case api.InExpire:
		return within(in.Timer, 0, p.Timers-1) && s.Left[in.Timer] == 0
	}
	return within(in.Seconds, 1, maxSeconds) &&
		!slices.ContainsFunc(s.Left, func(left int) bool { return left != -1 && left < in.Seconds })
}

// waited returns the state after some seconds.
func waited(p api.Program, s api.State, seconds int) api.State {
	next := api.State{Values: slices.Clone(s.Values), Left: slices.Clone(s.Left), Over: slices.Clone(s.Over)}
	for i, left := range next.Left {
		if left != -1 {
			next.Left[i] = left - seconds
		}
	}
	for i, over := range next.Over {
		if over != -1 {
			next.Over[i] = min(over+seconds, p.Laws[i].Bound+1)
		}
	}
	return next
}

// counted returns for how long the condition of each law has held, from what it was before the values changed.
func counted(t table, p api.Program, values, before []int) []int {
	var over []int
	for i, l := range p.Laws {
		seconds := -1
		if t.value(l.Cond, values) {
			seconds = max(before[i], 0)
		}
		over = append(over, seconds)
	}
	return over
}
