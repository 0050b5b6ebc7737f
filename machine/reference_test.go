package machine_test

import (
	"slices"

	"domicile/api"
)

// refEval returns the value of a condition: numbers and truth values are elements of any type on a stack; false as the second result if the sequence is none.
func refEval(l []api.Instr, values []int) (bool, bool) {
	var s []any
	for _, i := range l {
		n := len(s)
		switch i.Op {
		case api.InsVar:
			if i.Arg < 0 || i.Arg >= len(values) {
				return false, false
			}
			s = append(s, values[i.Arg])
		case api.InsConst:
			if i.Arg < 0 || i.Arg > 86400 {
				return false, false
			}
			s = append(s, i.Arg)
		case api.InsAnd:
			if n < 2 || i.Arg != 0 {
				return false, false
			}
			a, okA := s[n-2].(bool)
			b, okB := s[n-1].(bool)
			if !okA || !okB {
				return false, false
			}
			s = append(s[:n-2], a && b)
		case api.InsEq, api.InsNe, api.InsLt, api.InsLe, api.InsGt, api.InsGe:
			if n < 2 || i.Arg != 0 {
				return false, false
			}
			a, okA := s[n-2].(int)
			b, okB := s[n-1].(int)
			if !okA || !okB {
				return false, false
			}
			s = append(s[:n-2], map[int]bool{api.InsEq: a == b, api.InsNe: a != b, api.InsLt: a < b, api.InsLe: a <= b, api.InsGt: a > b, api.InsGe: a >= b}[i.Op])
		default:
			return false, false
		}
		if len(s) > 16 {
			return false, false
		}
	}
	if len(l) == 0 {
		return true, true
	}
	if len(s) != 1 {
		return false, false
	}
	value, ok := s[0].(bool)
	return value, ok
}

// holds returns the value of a condition that is one.
func holds(l []api.Instr, values []int) bool {
	value, ok := refEval(l, values)
	if !ok {
		panic("no condition")
	}
	return value
}

// refState returns a state with the numbers of laws after a cascade.
func refState(p api.Program, values, left, over []int) api.State {
	s := api.State{Values: values, Left: left}
	for i, l := range p.Laws {
		n := -1
		if holds(l.Cond, values) {
			n = max(0, over[i])
		}
		s.Over = append(s.Over, n)
	}
	return s
}

// refStart returns the first state.
func refStart(p api.Program) api.State {
	var values []int
	for _, v := range p.Vars {
		values = append(values, v.Start)
	}
	return refState(p, values, slices.Repeat([]int{-1}, p.Timers), slices.Repeat([]int{-1}, len(p.Laws)))
}

// refPermitted says whether an input is permitted.
func refPermitted(p api.Program, s api.State, in api.Input) bool {
	switch in.Kind {
	case api.InSet:
		return in.Var >= 0 && in.Var < len(p.Vars) && p.Vars[in.Var].Sensor && in.Value >= 0 && in.Value < p.Vars[in.Var].Size && in.Value != s.Values[in.Var]
	case api.InExpire:
		return in.Timer >= 0 && in.Timer < p.Timers && s.Left[in.Timer] == 0
	}
	for _, left := range s.Left {
		if left >= 0 && in.Seconds > left {
			return false
		}
	}
	return in.Seconds >= 1 && in.Seconds <= 86400
}

// refApply returns the result of a permitted input.
func refApply(p api.Program, s api.State, in api.Input) api.Step {
	values, left, over := slices.Clone(s.Values), slices.Clone(s.Left), slices.Clone(s.Over)
	if in.Kind == api.InWait {
		for i := range left {
			left[i] = max(-1, left[i]-in.Seconds*min(1, left[i]+1))
		}
		for i := range over {
			if over[i] >= 0 {
				over[i] = min(over[i]+in.Seconds, p.Laws[i].Bound+1)
			}
		}
		return api.Step{State: api.State{Values: values, Left: left, Over: over}}
	}
	before, timer := slices.Clone(values), -1
	if in.Kind == api.InSet {
		values[in.Var] = in.Value
	} else {
		timer = in.Timer
		left[timer] = -1
	}
	var step api.Step
	last := map[int]api.Command{}
	for wave := 0; ; wave++ {
		if wave == 32 {
			step.Endless = true
			break
		}
		next := slices.Clone(values)
		present := map[int]api.Command{}
		for i, u := range p.Units {
			fires := u.Timer >= 0 && u.Timer == timer && wave == 0 || u.Timer < 0 && holds(u.Trigger, values) && !holds(u.Trigger, before)
			if !fires || !holds(u.Guard, values) {
				continue
			}
			step.Firings = append(step.Firings, api.Firing{Wave: wave, Rule: i})
			for pair := range slices.Chunk(u.Action, 2) {
				if pair[1].Op == api.InsStart {
					left[pair[1].Arg] = pair[0].Arg
					if pair[0].Arg == 0 {
						left[pair[1].Arg] = -1
					}
					continue
				}
				c := api.Command{Rule: i, Var: pair[1].Arg, Value: pair[0].Arg}
				if refTakes(p, &step, present, c) {
					present[c.Var], last[c.Var], next[c.Var] = c, c, c.Value
				}
			}
		}
		before, values = values, next
		if slices.Equal(before, values) {
			break
		}
	}
	for v := range p.Vars {
		if c, ok := last[v]; ok {
			step.Commands = append(step.Commands, c)
		}
	}
	slices.SortFunc(step.Clashes, func(a, b api.Clash) int {
		return (a.First-b.First)*1000000000 + (a.Second-b.Second)*10000 + a.Var - b.Var
	})
	step.Clashes = slices.Compact(step.Clashes)
	step.State = refState(p, values, left, over)
	return step
}

// refTakes says whether a command takes the place of the present one, and adds a clash to the step.
func refTakes(p api.Program, step *api.Step, present map[int]api.Command, c api.Command) bool {
	d, ok := present[c.Var]
	if !ok || d.Rule == c.Rule {
		return true
	}
	by := p.Units[c.Rule].Priority - p.Units[d.Rule].Priority
	if by != 0 || c.Value == d.Value {
		return by > 0
	}
	if slices.Contains(p.Over, api.Pair{Winner: c.Rule, Loser: d.Rule}) {
		return true
	}
	if !slices.Contains(p.Over, api.Pair{Winner: d.Rule, Loser: c.Rule}) {
		step.Clashes = append(step.Clashes, api.Clash{First: d.Rule, Second: c.Rule, Var: c.Var})
	}
	return false
}

// normal returns a step in which empty slices are nil, so that equal steps are deeply equal.
func normal(s api.Step) api.Step {
	for _, l := range []*[]int{&s.State.Values, &s.State.Left, &s.State.Over} {
		if len(*l) == 0 {
			*l = nil
		}
	}
	if len(s.Commands) == 0 {
		s.Commands = nil
	}
	if len(s.Firings) == 0 {
		s.Firings = nil
	}
	if len(s.Clashes) == 0 {
		s.Clashes = nil
	}
	return s
}
