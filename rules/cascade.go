package rules

import (
	"cmp"
	"iter"
	"maps"
	"slices"

	"domicile/api"
)

// cascade is the effect of an input that is no wait, as far as it has been computed.
type cascade struct {
	model         api.Model
	expired       int // the timer, or -1
	before, after []int
	left          []int
	last          map[int]api.Command // the last present command for each variable
	firings       []api.Firing
	clashes       map[api.Clash]bool
	endless       bool
}

// begin returns the cascade of an input that is permitted, before its first wave.
func begin(m api.Model, s api.State, in api.Input) *cascade {
	c := &cascade{
		model: m, expired: -1,
		before: s.Values, after: slices.Clone(s.Values), left: slices.Clone(s.Left),
		last: map[int]api.Command{}, clashes: map[api.Clash]bool{},
	}
	if in.Kind == api.InSet {
		c.after[in.Var] = in.Value
	} else {
		c.expired = in.Timer
		c.left[in.Timer] = -1
	}
	return c
}

// run computes all waves.
func (c *cascade) run() {
	for wave, fired := range c.waves() {
		present := map[int]api.Command{}
		for _, rule := range fired {
			c.firings = append(c.firings, api.Firing{Wave: wave, Rule: rule})
			for _, set := range c.model.Rules[rule].Sets {
				c.command(present, api.Command{Rule: rule, Var: set.Var, Value: set.Value})
			}
		}
		for _, rule := range fired {
			c.start(rule)
		}
		c.finish(present)
	}
}

// waves yields the number of each wave and the rules that fire in it. Who ranges over it finishes each wave; the last one is that which changes nothing.
func (c *cascade) waves() iter.Seq2[int, []int] {
	return func(yield func(int, []int) bool) {
		for wave := range api.MaxWaves {
			if !yield(wave, c.fired(wave)) || slices.Equal(c.before, c.after) {
				return
			}
		}
		c.endless = true
	}
}

// fired returns the rules that fire in a wave.
func (c *cascade) fired(wave int) []int {
	var list []int
	for i, r := range c.model.Rules {
		if c.triggered(r, wave) && allHold(r.Guard, c.after) {
			list = append(list, i)
		}
	}
	return list
}

// triggered reports whether the trigger of a rule becomes true in a wave, or its timer has expired.
func (c *cascade) triggered(r api.Rule, wave int) bool {
	if r.Timer != -1 {
		return wave == 0 && r.Timer == c.expired
	}
	return !Holds(r.Trigger, c.before) && Holds(r.Trigger, c.after)
}

// command takes a command, which becomes the present one for its variable or not.
func (c *cascade) command(present map[int]api.Command, next api.Command) {
	if old, ok := present[next.Var]; !ok || c.replaces(next, old) {
		present[next.Var] = next
	}
}

// replaces reports whether a command takes the place of the present one, and notes a clash if nothing but their order decides.
func (c *cascade) replaces(next, old api.Command) bool {
	priority, than := c.model.Rules[next.Rule].Priority, c.model.Rules[old.Rule].Priority
	if next.Value == old.Value || priority != than {
		return priority > than
	}
	pair := api.Pair{Winner: next.Rule, Loser: old.Rule}
	if slices.Contains(c.model.Over, pair) {
		return true
	}
	if slices.Contains(c.model.Over, inverse(pair)) {
		return false
	}
	c.clashes[api.Clash{First: min(next.Rule, old.Rule), Second: max(next.Rule, old.Rule), Var: next.Var}] = true
	return next.Rule < old.Rule
}

// start does the starts of a rule.
func (c *cascade) start(rule int) {
	for _, s := range c.model.Rules[rule].Starts {
		c.left[s.Timer] = s.Seconds
		if s.Seconds == 0 {
			c.left[s.Timer] = -1
		}
	}
}

// finish ends a wave: its present commands set their variables.
func (c *cascade) finish(present map[int]api.Command) {
	c.before = c.after
	c.after = slices.Clone(c.before)
	for v, command := range present {
		c.after[v] = command.Value
		c.last[v] = command
	}
}

// step returns the result of the cascade of a state.
func (c *cascade) step(s api.State) api.Step {
	result := api.Step{
		State:   api.State{Values: c.after, Left: c.left, Over: counted(c.model, c.after, s.Over)},
		Firings: c.firings,
		Clashes: slices.SortedFunc(maps.Keys(c.clashes), compareClashes),
		Endless: c.endless,
	}
	for _, v := range slices.Sorted(maps.Keys(c.last)) {
		result.Commands = append(result.Commands, c.last[v])
	}
	return result
}

// compareClashes orders clashes by their rules and their variable.
func compareClashes(a, b api.Clash) int {
	return cmp.Or(cmp.Compare(a.First, b.First), cmp.Compare(a.Second, b.Second), cmp.Compare(a.Var, b.Var))
}
