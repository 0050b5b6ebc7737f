package machine

import (
	"cmp"
	"maps"
	"slices"

	"domicile/api"
)

// cascade is the effect of an input that is no wait, as far as it has been computed.
type cascade struct {
	table         table
	program       api.Program
	expired       int // the timer, or -1
	before, after []int
	left          []int
	last          map[int]api.Command // the last present command for each variable
	firings       []api.Firing
	clashes       map[api.Clash]bool
	endless       bool
}

// begin returns the cascade of an input that is permitted, before its first wave.
func begin(t table, p api.Program, s api.State, in api.Input) *cascade {
	c := &cascade{
		table: t, program: p, expired: -1,
		before: s.Values, after: slices.Clone(s.Values), left: slices.Clone(s.Left),
		last: map[int]api.Command{}, clashes: map[api.Clash]bool{},
	}
	if in.Kind == api.InSet {
		c.after[in.Var] = in.Value
	} else {
		c.expired = in.Timer
		c.left[in.Timer] = -1
	}
	return c
}

// wave computes a wave, and reports whether another one follows.
func (c *cascade) wave(number int) bool {
	present := map[int]api.Command{}
	for _, unit := range c.fired(number) {
		c.firings = append(c.firings, api.Firing{Wave: number, Rule: unit})
		c.act(unit, present)
	}
	c.before = c.after
	c.after = slices.Clone(c.before)
	for v, command := range present {
		c.after[v] = command.Value
		c.last[v] = command
	}
	if slices.Equal(c.before, c.after) {
		return false
	}
	c.endless = number == api.MaxWaves-1
	return !c.endless
}

// fired returns the units that fire in a wave.
func (c *cascade) fired(wave int) []int {
	var list []int
	for i, u := range c.program.Units {
		if c.triggered(u, wave) && c.table.value(u.Guard, c.after) {
			list = append(list, i)
		}
	}
	return list
}

// triggered reports whether the trigger of a unit becomes true in a wave, or its timer has expired.
func (c *cascade) triggered(u api.Unit, wave int) bool {
	if u.Timer != -1 {
		return wave == 0 && u.Timer == c.expired
	}
	return !c.table.value(u.Trigger, c.before) && c.table.value(u.Trigger, c.after)
}

// act does the action of a unit: each pair of instructions is a command or the start of a timer. Nothing in a wave reads the timers, so that starts need not wait for the commands of other units.
func (c *cascade) act(unit int, present map[int]api.Command) {
	action := c.program.Units[unit].Action
	for i := 0; i < len(action); i += 2 {
		number, target := action[i].Arg, action[i+1]
		if target.Op == api.InsSet {
			c.command(present, api.Command{Rule: unit, Var: target.Arg, Value: number})
		} else {
			c.start(target.Arg, number)
		}
	}
}

// start starts a timer, or stops it with 0 seconds.
func (c *cascade) start(timer, seconds int) {
	c.left[timer] = seconds
	if seconds == 0 {
		c.left[timer] = -1
	}
}

// command takes a command, which becomes the present one for its variable or not.
func (c *cascade) command(present map[int]api.Command, next api.Command) {
	if old, ok := present[next.Var]; !ok || c.replaces(next, old) {
		present[next.Var] = next
	}
}

// replaces reports whether a command takes the place of the present one, and notes a clash if nothing but their order decides.
func (c *cascade) replaces(next, old api.Command) bool {
	if next.Rule == old.Rule {
		return true
	}
	priority, than := c.program.Units[next.Rule].Priority, c.program.Units[old.Rule].Priority
	if next.Value == old.Value || priority != than {
		return priority > than
	}
	if slices.Contains(c.program.Over, api.Pair{Winner: next.Rule, Loser: old.Rule}) {
		return true
	}
	if slices.Contains(c.program.Over, api.Pair{Winner: old.Rule, Loser: next.Rule}) {
		return false
	}
	c.clashes[api.Clash{First: min(next.Rule, old.Rule), Second: max(next.Rule, old.Rule), Var: next.Var}] = true
	return next.Rule < old.Rule
}

// step returns the result of the cascade of a state.
func (c *cascade) step(s api.State) api.Step {
	result := api.Step{
		State:   api.State{Values: c.after, Left: c.left, Over: counted(c.table, c.program, c.after, s.Over)},
		Firings: c.firings,
		Clashes: slices.SortedFunc(maps.Keys(c.clashes), compareClashes),
		Endless: c.endless,
	}
	for _, v := range slices.Sorted(maps.Keys(c.last)) {
		result.Commands = append(result.Commands, c.last[v])
	}
	return result
}

// compareClashes orders clashes by their units and their variable.
func compareClashes(a, b api.Clash) int {
	return cmp.Or(cmp.Compare(a.First, b.First), cmp.Compare(a.Second, b.Second), cmp.Compare(a.Var, b.Var))
}
