package rules_test

import (
	"slices"

	"domicile/api"
)

// refHolds says whether a comparison holds for a value.
func refHolds(op, value, bound int) bool {
	switch op {
	case api.OpEq:
		return value == bound
	case api.OpNe:
		return value != bound
	case api.OpLt:
		return value < bound
	case api.OpLe:
		return value <= bound
	case api.OpGt:
		return value > bound
	case api.OpGe:
		return value >= bound
	}
	return false
}

// refAll says whether all comparisons hold.
func refAll(list []api.Atom, values []int) bool {
	for _, a := range list {
		if !refHolds(a.Op, values[a.Var], a.Value) {
			return false
		}
	}
	return true
}

// refState returns a state with the numbers of laws after a cascade.
func refState(m api.Model, values, left, over []int) api.State {
	s := api.State{Values: values, Left: left}
	for i, l := range m.Laws {
		n := -1
		if refAll(l.Cond, values) {
			n = max(0, over[i])
		}
		s.Over = append(s.Over, n)
	}
	return s
}

// refStart returns the first state.
func refStart(m api.Model) api.State {
	var values, left []int
	for _, v := range m.Vars {
		values = append(values, v.Start)
	}
	for range m.Timers {
		left = append(left, -1)
	}
	return refState(m, values, left, slices.Repeat([]int{-1}, len(m.Laws)))
}

// refPermitted says whether an input is permitted.
func refPermitted(m api.Model, s api.State, in api.Input) bool {
	switch in.Kind {
	case api.InSet:
		if in.Var < 0 || in.Var >= len(m.Vars) || !m.Vars[in.Var].Sensor {
			return false
		}
		return in.Value >= 0 && in.Value < m.Vars[in.Var].Size && in.Value != s.Values[in.Var]
	case api.InExpire:
		return in.Timer >= 0 && in.Timer < m.Timers && s.Left[in.Timer] == 0
	}
	if in.Seconds < 1 || in.Seconds > 86400 {
		return false
	}
	for _, left := range s.Left {
		if left >= 0 && in.Seconds > left {
			return false
		}
	}
	return true
}

// refInputs returns all permitted inputs, found by trying.
func refInputs(m api.Model, s api.State) []api.Input {
	var list []api.Input
	for v := range m.Vars {
		for value := range 17 {
			list = append(list, api.Input{Kind: api.InSet, Var: v, Value: value})
		}
	}
	for timer := range 41 {
		list = append(list, api.Input{Kind: api.InExpire, Timer: timer})
	}
	list = append(list, api.Input{Kind: api.InWait, Seconds: 1})
	return slices.DeleteFunc(list, func(in api.Input) bool { return !refPermitted(m, s, in) })
}

// refCommand is a command of a wave with its priority.
type refCommand struct {
	api.Command
	priority int
}

// refApply returns the result of a permitted input.
func refApply(m api.Model, s api.State, in api.Input) api.Step {
	values, left, over := slices.Clone(s.Values), slices.Clone(s.Left), slices.Clone(s.Over)
	if in.Kind == api.InWait {
		for i := range left {
			if left[i] >= 0 {
				left[i] -= in.Seconds
			}
		}
		for i := range over {
			if over[i] >= 0 {
				over[i] = min(over[i]+in.Seconds, m.Laws[i].Bound+1)
			}
		}
		return api.Step{State: api.State{Values: values, Left: left, Over: over}}
	}
	before := slices.Clone(values)
	timer := -1
	if in.Kind == api.InSet {
		values[in.Var] = in.Value
	} else {
		timer = in.Timer
		left[timer] = -1
	}
	var step api.Step
	commands := make([]api.Command, len(m.Vars))
	commanded := make([]bool, len(m.Vars))
	for wave := 0; ; wave++ {
		if wave == 32 {
			step.Endless = true
			break
		}
		var taken []refCommand
		for i, r := range m.Rules {
			fires := r.Timer >= 0 && wave == 0 && r.Timer == timer
			if r.Timer < 0 {
				a := r.Trigger
				fires = refHolds(a.Op, values[a.Var], a.Value) && !refHolds(a.Op, before[a.Var], a.Value)
			}
			if !fires || !refAll(r.Guard, values) {
				continue
			}
			step.Firings = append(step.Firings, api.Firing{Wave: wave, Rule: i})
			for _, e := range r.Sets {
				taken = append(taken, refCommand{api.Command{Rule: i, Var: e.Var, Value: e.Value}, r.Priority})
			}
			for _, e := range r.Starts {
				left[e.Timer] = map[bool]int{true: -1, false: e.Seconds}[e.Seconds == 0]
			}
		}
		next := slices.Clone(values)
		for v := range m.Vars {
			if c, ok := refPresent(m, &step, taken, v); ok {
				commands[v], commanded[v], next[v] = c, true, c.Value
			}
		}
		before, values = values, next
		if slices.Equal(before, values) {
			break
		}
	}
	for v, is := range commanded {
		if is {
			step.Commands = append(step.Commands, commands[v])
		}
	}
	slices.SortFunc(step.Clashes, func(a, b api.Clash) int {
		return (a.First-b.First)*1000000000 + (a.Second-b.Second)*10000 + a.Var - b.Var
	})
	step.Clashes = slices.Compact(step.Clashes)
	step.State = refState(m, values, left, over)
	return step
}

// refPresent returns the present command for a variable at the end of a wave, and adds clashes to the step.
func refPresent(m api.Model, step *api.Step, taken []refCommand, v int) (api.Command, bool) {
	var present *refCommand
	for i := range taken {
		c := &taken[i]
		if c.Var != v {
			continue
		}
		if present == nil || c.priority > present.priority {
			present = c
			continue
		}
		if c.priority < present.priority || c.Value == present.Value {
			continue
		}
		if slices.Contains(m.Over, api.Pair{Winner: c.Rule, Loser: present.Rule}) {
			present = c
		} else if !slices.Contains(m.Over, api.Pair{Winner: present.Rule, Loser: c.Rule}) {
			// The rules are taken in the order of their indices, so the present one is the smaller one and stays.
			step.Clashes = append(step.Clashes, api.Clash{First: present.Rule, Second: c.Rule, Var: v})
		}
	}
	if present == nil {
		return api.Command{}, false
	}
	return present.Command, true
}

// normal returns a step in which empty slices are nil, so that equal steps are deeply equal.
func normal(s api.Step) api.Step {
	if len(s.State.Values) == 0 {
		s.State.Values = nil
	}
	if len(s.State.Left) == 0 {
		s.State.Left = nil
	}
	if len(s.State.Over) == 0 {
		s.State.Over = nil
	}
	if len(s.Commands) == 0 {
		s.Commands = nil
	}
	if len(s.Firings) == 0 {
		s.Firings = nil
	}
	if len(s.Clashes) == 0 {
		s.Clashes = nil
	}
	return s
}
