package symmetry_test

import (
	"math/rand"
	"slices"

	"domicile/api"
	"domicile/rules"
)

// maker makes up models in which devices can often be exchanged.
type maker struct{ *rand.Rand }

func (m maker) chance(n int) bool { return m.Intn(n) == 0 }

// model returns a model with some kinds of devices. Its rules and laws are closed under exchanging devices of one kind, but for a few of them.
func (m maker) model() api.Model {
	model := api.Model{Timers: m.Intn(3)}
	var kinds [][]int
	device := m.Intn(3)
	for range 1 + m.Intn(2) {
		var attrs []api.Var
		for attr := range 1 + m.Intn(2) {
			size := 2 + m.Intn(2)
			attrs = append(attrs, api.Var{Size: size, Start: m.Intn(size), Fallback: m.Intn(size), Sensor: attr == 0 || m.chance(2), Private: m.chance(3), Shown: m.chance(3), Attr: attr})
		}
		var kind []int
		for range 1 + m.Intn(3) {
			for _, v := range attrs {
				v.Device = device
				model.Vars = append(model.Vars, v)
			}
			kind = append(kind, device)
			device += 1 + m.Intn(2)
		}
		kinds = append(kinds, kind)
	}
	for range m.Intn(2) {
		model.Vars = append(model.Vars, api.Var{Size: 3, Sensor: m.chance(2), Device: -1, Attr: m.Intn(3) - 1})
	}
	if m.chance(3) {
		m.Shuffle(len(model.Vars), func(i, j int) { model.Vars[i], model.Vars[j] = model.Vars[j], model.Vars[i] })
	}
	if m.chance(8) {
		v := &model.Vars[m.Intn(len(model.Vars))]
		v.Fallback, v.Attr = m.Intn(v.Size), m.Intn(4)-1
	}
	for range m.Intn(3) {
		model.Rules = append(model.Rules, m.rule(model))
	}
	for range m.Intn(3) {
		model.Laws = append(model.Laws, api.Law{Cond: m.atoms(model, 1, 3), Bound: m.Intn(4)})
	}
	for range 3 {
		m.close(&model, kinds)
	}
	m.Shuffle(len(model.Rules), func(i, j int) { model.Rules[i], model.Rules[j] = model.Rules[j], model.Rules[i] })
	m.Shuffle(len(model.Laws), func(i, j int) { model.Laws[i], model.Laws[j] = model.Laws[j], model.Laws[i] })
	m.spoil(&model)
	return model
}

// close adds the exchanged rules and laws that are missing.
func (m maker) close(model *api.Model, kinds [][]int) {
	for _, kind := range kinds {
		for i := range kind {
			partners, ok := refPartners(*model, kind[0], kind[i])
			if !ok || i == 0 {
				continue
			}
			other := refExchange(*model, partners)
			for _, r := range other.Rules {
				if len(model.Rules) < 30 && !slices.ContainsFunc(model.Rules, func(s api.Rule) bool { return refAlikeRules(r, s) }) {
					model.Rules = append(model.Rules, r)
				}
			}
			for _, l := range other.Laws {
				if len(model.Laws) < 20 && !slices.ContainsFunc(model.Laws, func(s api.Law) bool { return refAlikeLaws(l, s) }) {
					model.Laws = append(model.Laws, l)
				}
			}
		}
	}
}

// spoil changes a rule or law of some models, or repeats one.
func (m maker) spoil(model *api.Model) {
	if len(model.Rules) > 0 && m.chance(4) {
		r := &model.Rules[m.Intn(len(model.Rules))]
		switch m.Intn(4) {
		case 0:
			r.Priority++
		case 1:
			if len(r.Guard) < 8 {
				r.Guard = append(slices.Clone(r.Guard), m.atom(*model))
			}
		case 2:
			model.Rules = append(model.Rules, *r)
		case 3:
			r.Sets = m.sets(*model)
		}
	}
	if len(model.Laws) > 0 && len(model.Laws) < 20 && m.chance(4) {
		l := model.Laws[m.Intn(len(model.Laws))]
		l.Bound += m.Intn(2)
		l.Name = "again"
		model.Laws = append(model.Laws, l)
	}
}

func (m maker) atom(model api.Model) api.Atom {
	a := api.Atom{Var: m.Intn(len(model.Vars)), Op: api.OpEq + m.Intn(6)}
	size := model.Vars[a.Var].Size
	if a.Op > api.OpNe {
		size++
	}
	a.Value = m.Intn(size)
	return a
}

func (m maker) atoms(model api.Model, least, most int) []api.Atom {
	var list []api.Atom
	for range least + m.Intn(most-least+1) {
		list = append(list, m.atom(model))
	}
	return list
}

func (m maker) sets(model api.Model) []api.Set {
	var list []api.Set
	for v := range model.Vars {
		if m.chance(3) {
			list = append(list, api.Set{Var: v, Value: m.Intn(model.Vars[v].Size)})
		}
	}
	return list
}

func (m maker) rule(model api.Model) api.Rule {
	r := api.Rule{Name: "r", Priority: m.Intn(2), Timer: -1, Sets: m.sets(model)}
	if model.Timers > 0 && m.chance(3) {
		r.Timer = m.Intn(model.Timers)
	} else {
		r.Trigger = m.atom(model)
	}
	r.Guard = m.atoms(model, 0, 2)
	for timer := range model.Timers {
		if m.chance(2) {
			r.Starts = append(r.Starts, api.Start{Timer: timer, Seconds: 3})
		}
	}
	return r
}

// state returns a well-formed state.
func (m maker) state(model api.Model) api.State {
	var s api.State
	for _, v := range model.Vars {
		s.Values = append(s.Values, m.Intn(v.Size))
	}
	for range model.Timers {
		s.Left = append(s.Left, m.Intn(4)-1)
	}
	for _, l := range model.Laws {
		over := m.Intn(l.Bound + 2)
		for _, a := range l.Cond {
			if !rules.Holds(a, s.Values) {
				over = -1
			}
		}
		s.Over = append(s.Over, over)
	}
	return s
}

// reversed returns a model with its rules, laws and guards in the opposite order, and other names.
func reversed(m api.Model) api.Model {
	n := m
	n.Vars, n.Rules, n.Laws = slices.Clone(m.Vars), slices.Clone(m.Rules), slices.Clone(m.Laws)
	slices.Reverse(n.Rules)
	slices.Reverse(n.Laws)
	for i := range n.Vars {
		n.Vars[i].Name += "x"
	}
	for i := range n.Rules {
		n.Rules[i].Name += "x"
		n.Rules[i].Guard = slices.Clone(n.Rules[i].Guard)
		slices.Reverse(n.Rules[i].Guard)
	}
	for i := range n.Laws {
		n.Laws[i].Name += "x"
		n.Laws[i].Cond = slices.Clone(n.Laws[i].Cond)
		slices.Reverse(n.Laws[i].Cond)
	}
	return n
}
