package typing

import (
	"maps"
	"slices"

	"domicile/api"
	"domicile/scenes"
	"domicile/units"
)

const (
	// maxPriority bounds the priorities of rules.
	maxPriority = 100
	// maxAtoms is the greatest number of comparisons of a guard, and of a law.
	maxAtoms = 8
	// secondsOfDay is the number of seconds of a day.
	secondsOfDay = 86400
)

// atom returns the comparison of a text.
func (c *checker) atom(a api.AtomText) (api.Atom, api.Errno) {
	v, ok := c.refs[a.Ref]
	if !ok {
		return api.Atom{}, api.ErrName
	}
	if !within(a.Op, api.OpEq, api.OpGe) {
		return api.Atom{}, api.ErrType
	}
	list := c.values[v]
	if list.isGrid() && a.Op != api.OpEq && a.Op != api.OpNe {
		return list.grid.bound(v, a)
	}
	value, err := list.index(a.Value)
	if err != api.OK {
		return api.Atom{}, err
	}
	return api.Atom{Var: v, Op: a.Op, Value: value}, api.OK
}

// bound returns the comparison of a variable with a literal that need not be on its grid: the values that are less, or at most equal, are counted.
func (g grid) bound(v int, a api.AtomText) (api.Atom, api.Errno) {
	number, err := g.number(a.Value)
	if err != api.OK {
		return api.Atom{}, err
	}
	switch a.Op {
	case api.OpLt:
		return api.Atom{Var: v, Op: api.OpLt, Value: g.below(number)}, api.OK
	case api.OpLe:
		return api.Atom{Var: v, Op: api.OpLt, Value: g.below(number + 1)}, api.OK
	case api.OpGt:
		return api.Atom{Var: v, Op: api.OpGe, Value: g.below(number + 1)}, api.OK
	}
	return api.Atom{Var: v, Op: api.OpGe, Value: g.below(number)}, api.OK
}

// atoms returns the comparisons of texts, or the error of the first one that has one.
func (c *checker) atoms(list []api.AtomText) ([]api.Atom, api.Errno) {
	var result []api.Atom
	for _, text := range list {
		a, err := c.atom(text)
		if err != api.OK {
			return nil, err
		}
		result = append(result, a)
	}
	return result, api.OK
}

// setting returns what a setting sets.
func (c *checker) setting(s api.Setting) (api.Set, api.Errno) {
	v, ok := c.refs[s.Ref]
	if !ok {
		return api.Set{}, api.ErrName
	}
	if c.model.Vars[v].Sensor && v != modeVar {
		return api.Set{}, api.ErrType
	}
	value, err := c.values[v].index(s.Value)
	if err != api.OK {
		return api.Set{}, err
	}
	return api.Set{Var: v, Value: value}, api.OK
}

// rule returns the error of a rule, or adds it to the model.
func (c *checker) rule(i int) api.Errno {
	text := c.Rules[i]
	if err := c.listed(api.OfRule, i, api.MaxRules, text.Name); err != api.OK {
		return err
	}
	if !within(text.Priority, 0, maxPriority) {
		return api.ErrRange
	}
	r := api.Rule{Name: text.Name, Priority: text.Priority}
	if err := c.trigger(&r, text); err != api.OK {
		return err
	}
	if len(text.Guard) > maxAtoms {
		return api.ErrLimit
	}
	guard, err := c.atoms(text.Guard)
	if err != api.OK {
		return err
	}
	r.Guard = guard
	e := effect{sets: map[int]int{}, starts: map[int]int{}}
	for _, a := range text.Actions {
		if err := c.action(e, a); err != api.OK {
			return err
		}
	}
	e.finish(&r)
	c.model.Rules = append(c.model.Rules, r)
	return api.OK
}

// trigger gives a rule its timer or its trigger.
func (c *checker) trigger(r *api.Rule, text api.RuleText) api.Errno {
	if text.Timer == "" {
		a, err := c.atom(text.Trigger)
		r.Timer, r.Trigger = -1, a
		return err
	}
	timer, ok := c.find(api.OfTimer, text.Timer)
	if !ok {
		return api.ErrName
	}
	r.Timer = timer
	return api.OK
}

// effect is what the actions of a rule do: the values of variables and the seconds of timers.
type effect struct{ sets, starts map[int]int }

// action adds an action to an effect; it takes the place of what is there for the same variable or timer.
func (c *checker) action(e effect, a api.ActionText) api.Errno {
	switch a.Kind {
	case api.ActSet:
		return c.apply(e, api.Setting{Ref: a.Ref, Value: a.Value})
	case api.ActStart:
		return c.start(e, a)
	case api.ActStop:
		timer, ok := c.find(api.OfTimer, a.Timer)
		if !ok {
			return api.ErrName
		}
		e.starts[timer] = 0
		return api.OK
	case api.ActScene:
		overlay, err := scenes.Overlay(c.Scenes, a.Scenes)
		if err != api.OK {
			return err
		}
		return c.apply(e, overlay...)
	}
	return api.ErrType
}

// apply adds settings to an effect.
func (c *checker) apply(e effect, settings ...api.Setting) api.Errno {
	for _, s := range settings {
		set, err := c.setting(s)
		if err != api.OK {
			return err
		}
		e.sets[set.Var] = set.Value
	}
	return api.OK
}

// start adds the start of a timer to an effect.
func (c *checker) start(e effect, a api.ActionText) api.Errno {
	timer, ok := c.find(api.OfTimer, a.Timer)
	if !ok {
		return api.ErrName
	}
	seconds, err := units.Seconds(a.Duration)
	if err != api.OK {
		return err
	}
	if !within(seconds, 1, secondsOfDay) {
		return api.ErrRange
	}
	e.starts[timer] = seconds
	return api.OK
}

// finish gives a rule its sets and starts.
func (e effect) finish(r *api.Rule) {
	for _, v := range slices.Sorted(maps.Keys(e.sets)) {
		r.Sets = append(r.Sets, api.Set{Var: v, Value: e.sets[v]})
	}
	for _, timer := range slices.Sorted(maps.Keys(e.starts)) {
		r.Starts = append(r.Starts, api.Start{Timer: timer, Seconds: e.starts[timer]})
	}
}

// law returns the error of a law, or adds it to the model.
func (c *checker) law(i int) api.Errno {
	text := c.Laws[i]
	if err := c.listed(api.OfLaw, i, api.MaxLaws, text.Name); err != api.OK {
		return err
	}
	if !within(len(text.Cond), 1, maxAtoms) {
		return api.ErrLimit
	}
	cond, err := c.atoms(text.Cond)
	if err != api.OK {
		return err
	}
	bound, err := units.Seconds(text.Bound)
	if err != api.OK {
		return err
	}
	if !within(bound, 0, secondsOfDay) {
		return api.ErrRange
	}
	c.model.Laws = append(c.model.Laws, api.Law{Name: text.Name, Cond: cond, Bound: bound})
	return api.OK
}
