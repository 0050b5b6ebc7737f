package flow_test

import (
	"math/rand"
	"slices"

	"domicile/api"
	"domicile/rules"
)

// maker makes up small well-formed models.
type maker struct{ *rand.Rand }

func (m maker) chance(n int) bool { return m.Intn(n) == 0 }

// model returns a model with few values, so that its automaton is small; rare is how rarely rules use a variable.
func (m maker) model(vars, rare int) api.Model {
	var model api.Model
	for i := range vars {
		size := 1 + m.Intn(3)
		model.Vars = append(model.Vars, api.Var{Size: size, Start: m.Intn(size), Sensor: i == 0 || m.chance(2), Private: m.chance(3), Shown: m.chance(2), Device: -1, Attr: -1})
	}
	model.Timers = m.Intn(3)
	for range m.Intn(8) {
		model.Rules = append(model.Rules, m.rule(model, rare))
	}
	for range m.Intn(3) {
		model.Laws = append(model.Laws, api.Law{Cond: m.atoms(model, 1, 2), Bound: m.Intn(5)})
	}
	for range m.Intn(4) {
		m.prefer(&model)
	}
	return model
}

// prefer adds a preference, if it is well-formed.
func (m maker) prefer(model *api.Model) {
	if len(model.Rules) < 2 {
		return
	}
	p := api.Pair{Winner: m.Intn(len(model.Rules)), Loser: m.Intn(len(model.Rules))}
	if p.Winner != p.Loser && !slices.Contains(model.Over, p) && !slices.Contains(model.Over, api.Pair{Winner: p.Loser, Loser: p.Winner}) {
		model.Over = append(model.Over, p)
	}
}

func (m maker) atom(model api.Model) api.Atom {
	a := api.Atom{Var: m.Intn(len(model.Vars)), Op: api.OpEq}
	size := model.Vars[a.Var].Size
	if m.chance(3) {
		a.Op = api.OpEq + m.Intn(6)
	}
	if a.Op > api.OpNe {
		size++
	}
	a.Value = m.Intn(size)
	return a
}

func (m maker) atoms(model api.Model, least, most int) []api.Atom {
	var list []api.Atom
	for range least + m.Intn(most-least+1) {
		list = append(list, m.atom(model))
	}
	return list
}

func (m maker) rule(model api.Model, rare int) api.Rule {
	r := api.Rule{Priority: m.Intn(2), Timer: -1}
	if model.Timers > 0 && m.chance(3) {
		r.Timer = m.Intn(model.Timers)
	} else {
		r.Trigger = m.atom(model)
	}
	if m.chance(rare) {
		r.Guard = m.atoms(model, 1, 2)
	}
	for v := range model.Vars {
		if m.chance(rare) {
			r.Sets = append(r.Sets, api.Set{Var: v, Value: m.Intn(model.Vars[v].Size)})
		}
	}
	for timer := range model.Timers {
		if m.chance(rare) {
			r.Starts = append(r.Starts, api.Start{Timer: timer, Seconds: m.Intn(4)})
		}
	}
	return r
}

// input returns a permitted input, and whether there is one.
func (m maker) input(model api.Model, s api.State) (api.Input, bool) {
	list := rules.Inputs(model, s)
	if len(list) == 0 {
		return api.Input{}, false
	}
	if wait := list[len(list)-1]; wait.Kind == api.InWait && m.chance(3) {
		for m.chance(2) {
			wait.Seconds++
		}
		if _, err := rules.Apply(model, s, wait); err == api.OK {
			return wait, true
		}
	}
	return list[m.Intn(len(list))], true
}

// inputs returns inputs of all kinds, permitted or not.
func (m maker) inputs(model api.Model, n int) []api.Input {
	var l []api.Input
	for range n {
		in := api.Input{Kind: m.Intn(5), Var: m.Intn(len(model.Vars)+2) - 1, Value: m.Intn(4) - 1, Timer: m.Intn(4) - 1, Seconds: m.Intn(9) - 2}
		if m.chance(3) {
			in.Kind = api.InWait
		}
		if m.chance(4) {
			in.Seconds = []int{86399, 86400, 86401, 50000, -1 << 63, 1<<63 - 1}[m.Intn(6)]
		}
		l = append(l, in)
	}
	return l
}
