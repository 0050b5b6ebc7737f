package typing_test

import (
	"slices"

	"domicile/api"
	"domicile/scenes"
	"domicile/units"
)

// refVar is a variable of the reference: the reference that means it, and its values as names or as numbers.
type refVar struct {
	ref     api.Ref
	v       api.Var
	names   []string
	numbers []int
	dim     int
}

// refTyping has the house, its variables and the faults that were found. It looks everything up in lists, from the first element on.
type refTyping struct {
	h      api.House
	vars   []refVar
	faults []api.Fault
}

// reference returns the faults that Check has to return, and the model that Model has to return if there are none.
func reference(h api.House) ([]api.Fault, api.Model) {
	r := &refTyping{h: h}
	r.things()
	if len(r.faults) > 0 {
		return r.faults, api.Model{}
	}
	r.variables()
	for i, s := range h.Scenes {
		r.note(api.OfScene, i, 40, named(h.Scenes, func(s api.Scene) string { return s.Name }, i), func() api.Errno {
			if s.Layer < 0 || s.Layer > 100 {
				return api.ErrRange
			}
			for _, e := range s.Settings {
				if _, err := r.setting(e); err != api.OK {
					return err
				}
			}
			return api.OK
		})
	}
	if len(r.faults) > 0 {
		return r.faults, api.Model{}
	}
	return r.texts()
}

// texts checks and translates rules and laws.
func (r *refTyping) texts() ([]api.Fault, api.Model) {
	m := api.Model{Timers: len(r.h.Timers)}
	for _, v := range r.vars {
		m.Vars = append(m.Vars, v.v)
	}
	for i, text := range r.h.Rules {
		r.note(api.OfRule, i, 400, named(r.h.Rules, func(r api.RuleText) string { return r.Name }, i), func() api.Errno {
			rule, err := r.rule(text)
			m.Rules = append(m.Rules, rule)
			return err
		})
	}
	for i, text := range r.h.Laws {
		r.note(api.OfLaw, i, 20, named(r.h.Laws, func(l api.LawText) string { return l.Name }, i), func() api.Errno {
			law, err := r.law(text)
			m.Laws = append(m.Laws, law)
			return err
		})
	}
	if len(r.faults) > 0 {
		return r.faults, api.Model{}
	}
	return nil, m
}

// named reports whether an element before the one with an index has its name.
func named[T any](list []T, name func(T) string, index int) bool {
	return slices.ContainsFunc(list[:index], func(e T) bool { return name(e) == name(list[index]) })
}

// note notes the first error of a thing.
func (r *refTyping) note(of, index, limit int, twice bool, find func() api.Errno) {
	err := api.OK
	if index == limit {
		err = api.ErrLimit
	} else if twice {
		err = api.ErrTwice
	} else {
		err = find()
	}
	if err != api.OK {
		r.faults = append(r.faults, api.Fault{Of: of, Index: index, Err: err})
	}
}

// none finds no error.
func none() api.Errno { return api.OK }

// same returns a name.
func same(name string) string { return name }

// things checks what has no references to variables.
func (r *refTyping) things() {
	h := r.h
	for i := range h.Rooms {
		r.note(api.OfRoom, i, 64, named(h.Rooms, same, i), none)
	}
	for i, k := range h.Kinds {
		r.note(api.OfKind, i, 64, named(h.Kinds, func(k api.Kind) string { return k.Name }, i), func() api.Errno { return refKind(k) })
	}
	count := 2 + len(h.Persons)
	for i, d := range h.Devices {
		k := slices.IndexFunc(h.Kinds, func(k api.Kind) bool { return k.Name == d.Kind })
		if k >= 0 {
			count += len(h.Kinds[k].Attrs)
		}
		r.note(api.OfDevice, i, 500, named(h.Devices, func(d api.Device) string { return d.Name }, i), func() api.Errno {
			if k < 0 || !slices.Contains(h.Rooms, d.Room) {
				return api.ErrName
			}
			if count > 1200 {
				return api.ErrLimit
			}
			return api.OK
		})
	}
	for i := range h.Persons {
		r.note(api.OfPerson, i, 16, named(h.Persons, same, i), none)
	}
	for i := range h.Modes {
		r.note(api.OfMode, i, 16, named(h.Modes, same, i), none)
	}
	for i := range h.Timers {
		r.note(api.OfTimer, i, 40, named(h.Timers, same, i), none)
	}
	for i, w := range h.Quiet {
		r.note(api.OfWindow, i, 8, false, func() api.Errno {
			if min(w.From, w.To) < 0 || max(w.From, w.To) >= 1440 || w.From == w.To {
				return api.ErrRange
			}
			return api.OK
		})
	}
}

// refKind returns the error of the attributes of a kind.
func refKind(k api.Kind) api.Errno {
	for i, a := range k.Attrs {
		if named(k.Attrs, func(a api.Attr) string { return a.Name }, i) {
			return api.ErrTwice
		}
		for n := range a.Values {
			if named(a.Values, same, n) {
				return api.ErrTwice
			}
		}
		if _, err := refAttr(a); err != api.OK {
			return err
		}
	}
	return api.OK
}

// refAttr returns the variable of an attribute.
func refAttr(a api.Attr) (refVar, api.Errno) {
	v := refVar{names: a.Values, v: api.Var{Size: len(a.Values), Sensor: a.Sensor, Private: a.Private, Shown: a.Shown}}
	if n := len(a.Values); n == 1 || n > 16 {
		return v, api.ErrRange
	} else if n == 0 {
		if err := v.grid(a); err != api.OK {
			return v, err
		}
	}
	var err api.Errno
	if v.v.Start, err = v.index(a.Start); err != api.OK {
		return v, err
	}
	v.v.Fallback, err = v.index(a.Fallback)
	return v, err
}

// grid makes the list of the numbers of a grid.
func (v *refVar) grid(a api.Attr) api.Errno {
	dim, low, err := units.Base(a.Low)
	if err != api.OK {
		return err
	}
	dimHigh, high, err := units.Base(a.High)
	if err != api.OK {
		return err
	}
	dimStep, step, err := units.Base(a.Step)
	if err != api.OK {
		return err
	}
	if dim != dimHigh || dim != dimStep {
		return api.ErrType
	}
	for n := low; step > 0 && n <= high && len(v.numbers) < 17; n += step {
		v.numbers = append(v.numbers, n)
	}
	if len(v.numbers) < 2 || len(v.numbers) > 16 {
		return api.ErrRange
	}
	v.dim, v.v.Size = dim, len(v.numbers)
	return api.OK
}

// number returns the number of a literal for a grid.
func (v refVar) number(l api.Literal) (int, api.Errno) {
	if l.Name != "" {
		return 0, api.ErrType
	}
	dim, n, err := units.Base(l.Quantity)
	if err == api.OK && dim != v.dim {
		return 0, api.ErrType
	}
	return n, err
}

// index returns the index of a literal.
func (v refVar) index(l api.Literal) (int, api.Errno) {
	if len(v.numbers) == 0 {
		if l.Name == "" {
			return 0, api.ErrType
		}
		if i := slices.Index(v.names, l.Name); i >= 0 {
			return i, api.OK
		}
		return 0, api.ErrName
	}
	n, err := v.number(l)
	if err != api.OK {
		return 0, err
	}
	if i := slices.Index(v.numbers, n); i >= 0 {
		return i, api.OK
	}
	return 0, api.ErrRange
}

// variables makes the list of all variables.
func (r *refTyping) variables() {
	add := func(name string, private bool, names ...string) {
		r.vars = append(r.vars, refVar{ref: api.Ref{Attr: name}, names: names, v: api.Var{Name: name, Size: max(1, len(names)), Sensor: true, Private: private, Device: -1, Attr: -1}})
	}
	add("mode", false, r.h.Modes...)
	add("quiet", false, "off", "on")
	for _, name := range r.h.Persons {
		add(name, true, "away", "here")
	}
	for i, d := range r.h.Devices {
		k := r.h.Kinds[slices.IndexFunc(r.h.Kinds, func(k api.Kind) bool { return k.Name == d.Kind })]
		for n, a := range k.Attrs {
			v, _ := refAttr(a)
			v.ref, v.v.Name, v.v.Device, v.v.Attr = api.Ref{Device: d.Name, Attr: a.Name}, d.Name+"."+a.Name, i, n
			r.vars = append(r.vars, v)
		}
	}
}

// find returns the index of the variable of a reference, or -1. With an empty Device, no attribute is meant.
func (r *refTyping) find(ref api.Ref) int {
	return slices.IndexFunc(r.vars, func(v refVar) bool { return v.ref == ref && (ref.Device != "") == (v.v.Device >= 0) })
}

// atom translates a comparison.
func (r *refTyping) atom(a api.AtomText) (api.Atom, api.Errno) {
	i := r.find(a.Ref)
	if i < 0 {
		return api.Atom{}, api.ErrName
	}
	if !slices.Contains([]int{api.OpEq, api.OpNe, api.OpLt, api.OpLe, api.OpGt, api.OpGe}, a.Op) {
		return api.Atom{}, api.ErrType
	}
	v := r.vars[i]
	if len(v.numbers) == 0 || a.Op == api.OpEq || a.Op == api.OpNe {
		value, err := v.index(a.Value)
		return api.Atom{Var: i, Op: a.Op, Value: value}, err
	}
	n, err := v.number(a.Value)
	if err != api.OK {
		return api.Atom{}, err
	}
	result := api.Atom{Var: i, Op: map[int]int{api.OpLt: api.OpLt, api.OpLe: api.OpLt, api.OpGt: api.OpGe, api.OpGe: api.OpGe}[a.Op]}
	for _, m := range v.numbers {
		if m < n || m == n && (a.Op == api.OpLe || a.Op == api.OpGt) {
			result.Value++
		}
	}
	return result, api.OK
}

// setting translates a setting.
func (r *refTyping) setting(s api.Setting) (api.Set, api.Errno) {
	i := r.find(s.Ref)
	if i < 0 {
		return api.Set{}, api.ErrName
	}
	if r.vars[i].v.Sensor && i != 0 {
		return api.Set{}, api.ErrType
	}
	value, err := r.vars[i].index(s.Value)
	return api.Set{Var: i, Value: value}, err
}

// rule translates a rule; name and limit are checked already.
func (r *refTyping) rule(text api.RuleText) (api.Rule, api.Errno) {
	rule := api.Rule{Name: text.Name, Priority: text.Priority, Timer: -1}
	if text.Priority < 0 || text.Priority > 100 {
		return rule, api.ErrRange
	}
	var err api.Errno
	if text.Timer != "" {
		if rule.Timer = slices.Index(r.h.Timers, text.Timer); rule.Timer < 0 {
			return rule, api.ErrName
		}
	} else if rule.Trigger, err = r.atom(text.Trigger); err != api.OK {
		return rule, err
	}
	if len(text.Guard) > 8 {
		return rule, api.ErrLimit
	}
	for _, a := range text.Guard {
		atom, err := r.atom(a)
		if err != api.OK {
			return rule, err
		}
		rule.Guard = append(rule.Guard, atom)
	}
	for _, a := range text.Actions {
		if err := r.action(&rule, a); err != api.OK {
			return rule, err
		}
	}
	slices.SortFunc(rule.Sets, func(a, b api.Set) int { return a.Var - b.Var })
	slices.SortFunc(rule.Starts, func(a, b api.Start) int { return a.Timer - b.Timer })
	return rule, api.OK
}

// action adds an action to a rule, without an order.
func (r *refTyping) action(rule *api.Rule, a api.ActionText) api.Errno {
	timer := slices.Index(r.h.Timers, a.Timer)
	switch a.Kind {
	case api.ActSet:
		return r.set(rule, api.Setting{Ref: a.Ref, Value: a.Value})
	case api.ActScene:
		overlay, err := scenes.Overlay(r.h.Scenes, a.Scenes)
		if err != api.OK {
			return err
		}
		for _, s := range overlay {
			if err := r.set(rule, s); err != api.OK {
				return err
			}
		}
		return api.OK
	case api.ActStart, api.ActStop:
		if timer < 0 {
			return api.ErrName
		}
		seconds := 0
		if a.Kind == api.ActStart {
			var err api.Errno
			if seconds, err = units.Seconds(a.Duration); err != api.OK {
				return err
			}
			if seconds < 1 || seconds > 86400 {
				return api.ErrRange
			}
		}
		rule.Starts = append(slices.DeleteFunc(rule.Starts, func(s api.Start) bool { return s.Timer == timer }), api.Start{Timer: timer, Seconds: seconds})
		return api.OK
	}
	return api.ErrType
}

// set adds a setting to a rule.
func (r *refTyping) set(rule *api.Rule, s api.Setting) api.Errno {
	set, err := r.setting(s)
	if err != api.OK {
		return err
	}
	rule.Sets = append(slices.DeleteFunc(rule.Sets, func(o api.Set) bool { return o.Var == set.Var }), set)
	return api.OK
}

// law translates a law; name and limit are checked already.
func (r *refTyping) law(text api.LawText) (api.Law, api.Errno) {
	law := api.Law{Name: text.Name}
	if len(text.Cond) < 1 || len(text.Cond) > 8 {
		return law, api.ErrLimit
	}
	for _, a := range text.Cond {
		atom, err := r.atom(a)
		if err != api.OK {
			return law, err
		}
		law.Cond = append(law.Cond, atom)
	}
	var err api.Errno
	if law.Bound, err = units.Seconds(text.Bound); err != api.OK {
		return law, err
	}
	if law.Bound < 0 || law.Bound > 86400 {
		return law, api.ErrRange
	}
	return law, api.OK
}
