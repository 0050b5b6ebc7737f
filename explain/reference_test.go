package explain_test

import (
	"math/rand"
	"slices"
	"sort"

	"domicile/api"
	"domicile/rules"
)

// run is a run with its steps; all is looked up again and again, straight from the definitions.
type run struct {
	m     api.Model
	l     []api.Input
	steps []api.Step
}

// fired returns the rules that fire in a wave of a step.
func (r run) fired(step, wave int) []int {
	var l []int
	for _, f := range r.steps[step].Firings {
		if f.Wave == wave {
			l = append(l, f.Rule)
		}
	}
	return l
}

// present returns the rule of the present command for a variable in a wave, or -1, and its value.
func (r run) present(step, wave, variable int) (int, int) {
	best, value := -1, 0
	for _, rule := range r.fired(step, wave) {
		for _, set := range r.m.Rules[rule].Sets {
			if set.Var != variable {
				continue
			}
			wins := best < 0
			if best >= 0 {
				wins = r.m.Rules[rule].Priority > r.m.Rules[best].Priority
				equal := r.m.Rules[rule].Priority == r.m.Rules[best].Priority
				if equal && set.Value != value && slices.Contains(r.m.Over, api.Pair{Winner: rule, Loser: best}) {
					wins = true
				}
			}
			if wins {
				best, value = rule, set.Value
			}
		}
	}
	return best, value
}

// node returns the node of the last assignment of a variable before a wave of a step.
func (r run) node(variable, step, wave int) api.Why {
	for ; step >= 0; step, wave = step-1, 32 {
		for w := wave - 1; w >= 0; w-- {
			if rule, value := r.present(step, w, variable); rule >= 0 {
				return api.Why{Kind: api.WhyRule, Step: step, Rule: rule, Var: variable, Value: value, From: r.causes(step, w, rule)}
			}
		}
		if in := r.l[step]; in.Kind == api.InSet && in.Var == variable {
			return api.Why{Kind: api.WhyInput, Step: step, Rule: -1, Var: variable, Value: in.Value}
		}
	}
	return api.Why{Kind: api.WhyStart, Rule: -1, Var: variable, Value: r.m.Vars[variable].Start}
}

// expiry returns the node of the expiry in a step.
func (r run) expiry(step int) api.Why {
	timer := r.l[step].Timer
	w := api.Why{Kind: api.WhyInput, Step: step, Rule: -1, Var: -1, Value: timer}
	for s := step - 1; s >= 0; s-- {
		firings := r.steps[s].Firings
		for i := len(firings) - 1; i >= 0; i-- {
			for _, start := range r.m.Rules[firings[i].Rule].Starts {
				if start.Timer == timer && start.Seconds > 0 {
					from := r.causes(s, firings[i].Wave, firings[i].Rule)
					w.From = []api.Why{{Kind: api.WhyRule, Step: s, Rule: firings[i].Rule, Var: -1, Value: timer, From: from}}
					return w
				}
			}
		}
	}
	return w
}

func (r run) causes(step, wave, rule int) []api.Why {
	var l []api.Why
	if r.m.Rules[rule].Timer >= 0 {
		l = append(l, r.expiry(step))
	} else {
		l = append(l, r.node(r.m.Rules[rule].Trigger.Var, step, wave))
	}
	for _, a := range r.m.Rules[rule].Guard {
		l = append(l, r.node(a.Var, step, wave))
	}
	return l
}

func (r run) tree(step, command int) api.Why {
	return r.node(r.steps[step].Commands[command].Var, step, 32)
}

func size(w api.Why) int {
	n := 1
	for _, c := range w.From {
		n += size(c)
	}
	return n
}

// nodes calls f with all nodes of a tree, the causes before what they cause.
func nodes(w api.Why, f func(api.Why)) {
	for _, c := range w.From {
		nodes(c, f)
	}
	f(w)
}

func refLeaves(w api.Why) []int {
	known := map[int]bool{}
	nodes(w, func(w api.Why) {
		if w.Kind == api.WhyInput {
			known[w.Step] = true
		}
	})
	var l []int
	for step := range known {
		l = append(l, step)
	}
	sort.Ints(l)
	return l
}

// maker makes up models and runs.
type maker struct{ *rand.Rand }

func (m maker) chance(n int) bool { return m.Intn(n) == 0 }

func (m maker) model() api.Model {
	var model api.Model
	for i := range 2 + m.Intn(4) {
		size := 2 + m.Intn(2)
		model.Vars = append(model.Vars, api.Var{Size: size, Start: m.Intn(size), Sensor: i == 0 || m.chance(3), Device: -1, Attr: -1})
	}
	model.Timers = m.Intn(3)
	for range 1 + m.Intn(8) {
		model.Rules = append(model.Rules, m.rule(model))
	}
	for range m.Intn(6) {
		p := api.Pair{Winner: m.Intn(len(model.Rules)), Loser: m.Intn(len(model.Rules))}
		if p.Winner != p.Loser && !slices.Contains(model.Over, p) && !slices.Contains(model.Over, api.Pair{Winner: p.Loser, Loser: p.Winner}) {
			model.Over = append(model.Over, p)
		}
	}
	return model
}

func (m maker) atom(model api.Model) api.Atom {
	a := api.Atom{Var: m.Intn(len(model.Vars)), Op: api.OpEq}
	size := model.Vars[a.Var].Size
	if m.chance(3) {
		a.Op = api.OpEq + m.Intn(6)
	}
	if a.Op > api.OpNe {
		size++
	}
	a.Value = m.Intn(size)
	return a
}

func (m maker) rule(model api.Model) api.Rule {
	r := api.Rule{Priority: m.Intn(2), Timer: -1}
	if model.Timers > 0 && m.chance(3) {
		r.Timer = m.Intn(model.Timers)
	} else {
		r.Trigger = m.atom(model)
	}
	for range m.Intn(3) {
		a := m.atom(model)
		if m.chance(2) {
			// It always holds, but what it compares is a cause.
			a.Op, a.Value = api.OpGe, 0
		}
		r.Guard = append(r.Guard, a)
	}
	for v := range model.Vars {
		if m.chance(2) {
			r.Sets = append(r.Sets, api.Set{Var: v, Value: m.Intn(model.Vars[v].Size)})
		}
	}
	for timer := range model.Timers {
		if m.chance(2) {
			r.Starts = append(r.Starts, api.Start{Timer: timer, Seconds: m.Intn(4)})
		}
	}
	return r
}

// run returns a run of a model with at most n inputs.
func (m maker) run(model api.Model, n int) run {
	r := run{m: model}
	s := rules.Start(model)
	for range n {
		l := rules.Inputs(model, s)
		if len(l) == 0 {
			break
		}
		in := l[m.Intn(len(l))]
		if last := l[len(l)-1]; last.Kind != api.InSet && m.chance(2) {
			in = last
		}
		step, _ := rules.Apply(model, s, in)
		r.l, r.steps = append(r.l, in), append(r.steps, step)
		s = step.State
	}
	return r
}
