package repair_test

import (
	"math/rand"
	"slices"

	"domicile/api"
	"domicile/rules"
)

// maker makes up small well-formed models.
type maker struct{ *rand.Rand }

func (m maker) chance(n int) bool { return m.Intn(n) == 0 }

// model returns a model with few values, so that its automaton is small; rare is how rarely rules use a variable.
func (m maker) model(vars, rare int) api.Model {
	var model api.Model
	for i := range vars {
		size := 2 + m.Intn(2)
		model.Vars = append(model.Vars, api.Var{Size: size, Start: m.Intn(size), Sensor: i == 0 || m.chance(4), Device: -1, Attr: -1})
	}
	model.Timers = m.Intn(3)
	for range m.Intn(9) {
		model.Rules = append(model.Rules, m.rule(model, rare))
	}
	if v := m.Intn(vars); v > 0 && m.chance(3) {
		// Two rules that set a variable in turn are often endless.
		for value := range 2 {
			r := m.rule(model, 9)
			r.Timer, r.Trigger = -1, api.Atom{Var: v, Op: api.OpEq, Value: value}
			r.Sets = []api.Set{{Var: v, Value: 1 - value}}
			model.Rules = append(model.Rules, r)
		}
		m.Shuffle(len(model.Rules), func(i, j int) { model.Rules[i], model.Rules[j] = model.Rules[j], model.Rules[i] })
	}
	for range m.Intn(3) {
		model.Laws = append(model.Laws, api.Law{Cond: m.atoms(model, 1, 2), Bound: m.Intn(5)})
	}
	for range m.Intn(4) {
		m.prefer(&model)
	}
	return model
}

// prefer adds a preference, if it is well-formed.
func (m maker) prefer(model *api.Model) {
	if len(model.Rules) < 2 {
		return
	}
	p := api.Pair{Winner: m.Intn(len(model.Rules)), Loser: m.Intn(len(model.Rules))}
	if p.Winner != p.Loser && !slices.Contains(model.Over, p) && !slices.Contains(model.Over, api.Pair{Winner: p.Loser, Loser: p.Winner}) {
		model.Over = append(model.Over, p)
	}
}

func (m maker) atom(model api.Model) api.Atom {
	a := api.Atom{Var: m.Intn(len(model.Vars)), Op: api.OpEq}
	size := model.Vars[a.Var].Size
	if m.chance(3) {
		a.Op = api.OpEq + m.Intn(6)
	}
	if a.Op > api.OpNe {
		size++
	}
	a.Value = m.Intn(size)
	return a
}

func (m maker) atoms(model api.Model, least, most int) []api.Atom {
	var list []api.Atom
	for range least + m.Intn(most-least+1) {
		list = append(list, m.atom(model))
	}
	return list
}

func (m maker) rule(model api.Model, rare int) api.Rule {
	r := api.Rule{Priority: m.Intn(6) / 5, Timer: -1}
	if model.Timers > 0 && m.chance(3) {
		r.Timer = m.Intn(model.Timers)
	} else {
		r.Trigger = m.atom(model)
		if m.chance(2) {
			// Rules with the same trigger clash more often.
			r.Trigger = api.Atom{Var: 0, Op: api.OpEq, Value: m.Intn(model.Vars[0].Size)}
		}
	}
	if m.chance(rare + 1) {
		r.Guard = m.atoms(model, 1, 2)
	}
	for v := range model.Vars {
		if v > 0 && m.chance(rare) {
			r.Sets = append(r.Sets, api.Set{Var: v, Value: m.Intn(model.Vars[v].Size)})
		}
	}
	for timer := range model.Timers {
		if m.chance(rare) {
			r.Starts = append(r.Starts, api.Start{Timer: timer, Seconds: m.Intn(4)})
		}
	}
	return r
}

// input returns a permitted input, and whether there is one.
func (m maker) input(model api.Model, s api.State) (api.Input, bool) {
	list := rules.Inputs(model, s)
	if len(list) == 0 {
		return api.Input{}, false
	}
	if wait := list[len(list)-1]; wait.Kind == api.InWait && m.chance(3) {
		for m.chance(2) {
			wait.Seconds++
		}
		if _, err := rules.Apply(model, s, wait); err == api.OK {
			return wait, true
		}
	}
	return list[m.Intn(len(list))], true
}
