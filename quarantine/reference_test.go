package quarantine_test

import (
	"math/rand"
	"slices"

	"domicile/api"
	"domicile/rules"
)

// refRemove follows the text of the chapter, point by point.
func refRemove(m api.Model, device int) (api.Model, api.Errno) {
	its := func(a api.Atom) bool { return m.Vars[a.Var].Device == device }
	holds := func(a api.Atom) bool {
		x := m.Vars[a.Var].Fallback
		return a.Op == api.OpEq && x == a.Value || a.Op == api.OpNe && x != a.Value || a.Op == api.OpLt && x < a.Value ||
			a.Op == api.OpLe && x <= a.Value || a.Op == api.OpGt && x > a.Value || a.Op == api.OpGe && x >= a.Value
	}
	out := api.Model{Timers: m.Timers}
	for _, v := range m.Vars {
		if v.Device == device {
			v.Sensor, v.Start = false, v.Fallback
		}
		out.Vars = append(out.Vars, v)
	}
	index := make([]int, len(m.Rules))
rules:
	for i, r := range m.Rules {
		index[i] = -1
		if r.Timer == -1 && its(r.Trigger) {
			continue
		}
		n := api.Rule{Name: r.Name, Priority: r.Priority, Timer: r.Timer, Trigger: r.Trigger, Starts: r.Starts}
		for _, a := range r.Guard {
			if its(a) && !holds(a) {
				continue rules
			}
			if !its(a) {
				n.Guard = append(n.Guard, a)
			}
		}
		for _, s := range r.Sets {
			if m.Vars[s.Var].Device != device {
				n.Sets = append(n.Sets, s)
			}
		}
		index[i] = len(out.Rules)
		out.Rules = append(out.Rules, n)
	}
laws:
	for _, l := range m.Laws {
		n := api.Law{Name: l.Name, Bound: l.Bound}
		for _, a := range l.Cond {
			if its(a) && !holds(a) {
				continue laws
			}
			if !its(a) {
				n.Cond = append(n.Cond, a)
			}
		}
		if len(n.Cond) == 0 {
			return api.Model{}, api.ErrConflict
		}
		out.Laws = append(out.Laws, n)
	}
	for _, p := range m.Over {
		if index[p.Winner] >= 0 && index[p.Loser] >= 0 {
			out.Over = append(out.Over, api.Pair{Winner: index[p.Winner], Loser: index[p.Loser]})
		}
	}
	return out, api.OK
}

// refDepend says whether a rule depends on a device.
func refDepend(m api.Model, r api.Rule, device int) bool {
	if r.Timer == -1 && m.Vars[r.Trigger.Var].Device == device {
		return true
	}
	for _, a := range r.Guard {
		if m.Vars[a.Var].Device == device {
			return true
		}
	}
	for _, s := range r.Sets {
		if m.Vars[s.Var].Device == device {
			return true
		}
	}
	return false
}

// atRest returns the model with a device at rest, which has the same rules and laws.
func atRest(m api.Model, device int) api.Model {
	out := api.Model{Timers: m.Timers, Laws: m.Laws, Over: m.Over, Vars: slices.Clone(m.Vars)}
	for i, v := range out.Vars {
		if v.Device == device {
			out.Vars[i].Sensor, out.Vars[i].Start = false, v.Fallback
		}
	}
	for _, r := range m.Rules {
		var sets []api.Set
		for _, s := range r.Sets {
			if m.Vars[s.Var].Device != device {
				sets = append(sets, s)
			}
		}
		r.Sets = sets
		out.Rules = append(out.Rules, r)
	}
	return out
}

// maker makes up small well-formed models with the devices 0 to 3.
type maker struct{ *rand.Rand }

func (m maker) chance(n int) bool { return m.Intn(n) == 0 }

func (m maker) model() api.Model {
	var model api.Model
	for i := range 2 + m.Intn(6) {
		size := 2 + m.Intn(2)
		model.Vars = append(model.Vars, api.Var{Name: string(rune('a' + i)), Size: size, Start: m.Intn(size), Fallback: m.Intn(size),
			Sensor: i == 0 || m.chance(2), Private: m.chance(3), Shown: m.chance(2), Device: m.Intn(5) - 1, Attr: i})
	}
	model.Timers = m.Intn(3)
	for range m.Intn(9) {
		model.Rules = append(model.Rules, m.rule(model))
	}
	for range m.Intn(4) {
		model.Laws = append(model.Laws, api.Law{Name: "l", Cond: m.atoms(model, 1, 3), Bound: m.Intn(5)})
	}
	for range m.Intn(5) {
		if n := len(model.Rules); n > 1 {
			p := api.Pair{Winner: m.Intn(n), Loser: m.Intn(n)}
			if p.Winner != p.Loser && !slices.Contains(model.Over, p) && !slices.Contains(model.Over, api.Pair{Winner: p.Loser, Loser: p.Winner}) {
				model.Over = append(model.Over, p)
			}
		}
	}
	return model
}

func (m maker) atom(model api.Model) api.Atom {
	a := api.Atom{Var: m.Intn(len(model.Vars)), Op: api.OpEq + m.Intn(6)}
	size := model.Vars[a.Var].Size
	if a.Op > api.OpNe {
		size++
	}
	a.Value = m.Intn(size)
	return a
}

func (m maker) atoms(model api.Model, least, most int) []api.Atom {
	var list []api.Atom
	for range least + m.Intn(most-least+1) {
		list = append(list, m.atom(model))
	}
	return list
}

func (m maker) rule(model api.Model) api.Rule {
	r := api.Rule{Name: "r", Priority: m.Intn(2), Timer: -1}
	if model.Timers > 0 && m.chance(3) {
		r.Timer = m.Intn(model.Timers)
	} else {
		r.Trigger = m.atom(model)
	}
	if m.chance(2) {
		r.Guard = m.atoms(model, 1, 2)
	}
	for v := range model.Vars {
		if m.chance(2) {
			r.Sets = append(r.Sets, api.Set{Var: v, Value: m.Intn(model.Vars[v].Size)})
		}
	}
	for timer := range model.Timers {
		if m.chance(2) {
			r.Starts = append(r.Starts, api.Start{Timer: timer, Seconds: m.Intn(4)})
		}
	}
	return r
}

// input returns a permitted input, and whether there is one.
func (m maker) input(model api.Model, s api.State) (api.Input, bool) {
	list := rules.Inputs(model, s)
	if len(list) == 0 {
		return api.Input{}, false
	}
	return list[m.Intn(len(list))], true
}
