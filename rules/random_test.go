package rules_test

import (
	"math/rand"
	"slices"

	"domicile/api"
)

// maker makes up small well-formed models in which rules meet often.
type maker struct{ *rand.Rand }

func (m maker) chance(n int) bool { return m.Intn(n) == 0 }

func (m maker) model() api.Model {
	var model api.Model
	for i := range 1 + m.Intn(5) {
		size := 1 + m.Intn(3)
		model.Vars = append(model.Vars, api.Var{Size: size, Start: m.Intn(size), Fallback: m.Intn(size), Sensor: i == 0 || m.chance(2), Device: -1, Attr: m.Intn(3) - 1})
	}
	model.Timers = m.Intn(3)
	for range m.Intn(12) {
		model.Rules = append(model.Rules, m.rule(model))
	}
	for range m.Intn(3) {
		model.Laws = append(model.Laws, api.Law{Cond: m.atoms(model, 1, 2), Bound: m.Intn(6)})
	}
	for range m.Intn(6) {
		m.prefer(&model)
	}
	return model
}

// prefer adds a preference, if it is well-formed.
func (m maker) prefer(model *api.Model) {
	if len(model.Rules) < 2 {
		return
	}
	p := api.Pair{Winner: m.Intn(len(model.Rules)), Loser: m.Intn(len(model.Rules))}
	if p.Winner != p.Loser && !slices.Contains(model.Over, p) && !slices.Contains(model.Over, api.Pair{Winner: p.Loser, Loser: p.Winner}) {
		model.Over = append(model.Over, p)
	}
}

func (m maker) atom(model api.Model) api.Atom {
	a := api.Atom{Var: m.Intn(len(model.Vars)), Op: api.OpEq + m.Intn(6)}
	if m.chance(2) {
		a.Op = api.OpEq
	}
	size := model.Vars[a.Var].Size
	if a.Op > api.OpNe {
		size++
	}
	a.Value = m.Intn(size)
	return a
}

func (m maker) atoms(model api.Model, least, most int) []api.Atom {
	var list []api.Atom
	for range least + m.Intn(most-least+1) {
		list = append(list, m.atom(model))
	}
	return list
}

func (m maker) rule(model api.Model) api.Rule {
	r := api.Rule{Priority: m.Intn(2), Timer: -1}
	if model.Timers > 0 && m.chance(3) {
		r.Timer = m.Intn(model.Timers)
	} else {
		r.Trigger = m.atom(model)
	}
	if m.chance(2) {
		r.Guard = m.atoms(model, 0, 2)
	}
	for v := range model.Vars {
		if m.chance(2) {
			r.Sets = append(r.Sets, api.Set{Var: v, Value: m.Intn(model.Vars[v].Size)})
		}
	}
	for timer := range model.Timers {
		if m.chance(2) {
			r.Starts = append(r.Starts, api.Start{Timer: timer, Seconds: m.Intn(5)})
		}
	}
	return r
}

// input returns an input that may be permitted or not.
func (m maker) input(model api.Model, s api.State) api.Input {
	switch m.Intn(4) {
	case 0:
		return api.Input{Kind: api.InExpire, Timer: m.Intn(4) - 1, Var: m.Intn(3), Value: m.Intn(3), Seconds: m.Intn(3)}
	case 1:
		return api.Input{Kind: api.InWait, Seconds: m.Intn(7) - 1, Timer: m.Intn(3), Var: m.Intn(3), Value: m.Intn(3)}
	}
	v := m.Intn(len(model.Vars)+2) - 1
	return api.Input{Kind: api.InSet, Var: v, Value: m.Intn(5) - 1, Timer: m.Intn(3), Seconds: m.Intn(3)}
}

// permitted returns a permitted input, and whether there is one.
func (m maker) permitted(model api.Model, s api.State) (api.Input, bool) {
	list := refInputs(model, s)
	if len(list) == 0 {
		return api.Input{}, false
	}
	in := list[m.Intn(len(list))]
	if in.Kind == api.InWait && m.chance(2) {
		in = list[m.Intn(len(list))]
	}
	if in.Kind == api.InWait {
		for range m.Intn(4) {
			if more := (api.Input{Kind: api.InWait, Seconds: in.Seconds + 1}); refPermitted(model, s, more) {
				in = more
			}
		}
	}
	return in, true
}

// walks calls a function with models, and with states and permitted inputs of random runs of them.
func walks(seed int64, models, steps int, each func(m maker, model api.Model, s api.State, in api.Input)) {
	for i := range models {
		m := maker{rand.New(rand.NewSource(seed*1000000 + int64(i)))}
		model := m.model()
		s := refStart(model)
		for range steps {
			in, ok := m.permitted(model, s)
			if !ok {
				break
			}
			each(m, model, s, in)
			s = refApply(model, s, in).State
		}
	}
}
