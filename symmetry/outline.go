package symmetry

import (
	"cmp"
	"maps"
	"slices"

	"domicile/api"
)

// outline is what is known about a well-formed model. Its parts are its rules, and then its laws.
type outline struct {
	model api.Model
	vars  map[int][]int // the variables of each device, in the order of their Attrs
	texts []string      // the text of each part
	users map[int][]int // the parts that use each device
}

// newOutline returns the outline of a model.
func newOutline(m api.Model) outline {
	o := outline{model: m, vars: map[int][]int{}, texts: texts(m), users: map[int][]int{}}
	for i, v := range m.Vars {
		if v.Device >= 0 {
			o.vars[v.Device] = append(o.vars[v.Device], i)
		}
	}
	for _, list := range o.vars {
		slices.SortStableFunc(list, func(a, b int) int { return cmp.Compare(m.Vars[a].Attr, m.Vars[b].Attr) })
	}
	for part := range o.texts {
		used := map[int]bool{}
		for _, v := range partVars(m, part) {
			used[m.Vars[v].Device] = true
		}
		for device := range used {
			o.users[device] = append(o.users[device], part)
		}
	}
	return o
}

// partVars returns the variables that a part uses.
func partVars(m api.Model, part int) []int {
	ofAtom := func(a api.Atom) int { return a.Var }
	if part >= len(m.Rules) {
		return mapped(m.Laws[part-len(m.Rules)].Cond, ofAtom)
	}
	r := m.Rules[part]
	list := append(mapped(r.Guard, ofAtom), mapped(r.Sets, func(s api.Set) int { return s.Var })...)
	if r.Timer == -1 {
		list = append(list, r.Trigger.Var)
	}
	return list
}

// exchange returns the exchange of two devices, and whether they fit.
func (o outline) exchange(x, y int) (exchange, bool) {
	partners := exchange{}
	first, second := o.vars[x], o.vars[y]
	if len(first) != len(second) {
		return nil, false
	}
	for i, v := range first {
		w := second[i]
		twice := i > 0 && o.model.Vars[first[i-1]].Attr == o.model.Vars[v].Attr
		if twice || kindOf(o.model.Vars[v]) != kindOf(o.model.Vars[w]) {
			return nil, false
		}
		partners[v], partners[w] = w, v
	}
	return partners, true
}

// kindOf returns what has to be the same in the variables of devices that fit.
func kindOf(v api.Var) api.Var {
	v.Name, v.Device = "", 0
	return v
}

// exchangeable reports whether two different devices can be exchanged. Parts that use none of them stay as they are, so that only the others are compared.
func (o outline) exchangeable(x, y int) bool {
	if len(o.users[x]) != len(o.users[y]) {
		return false
	}
	swap, ok := o.exchange(x, y)
	if !ok {
		return false
	}
	concerned := slices.Concat(o.users[x], o.users[y])
	slices.Sort(concerned)
	count := map[string]int{}
	for _, part := range slices.Compact(concerned) {
		count[o.texts[part]]++
		count[o.exchangedText(part, swap)]--
	}
	return balanced(count)
}

// exchangedText returns the text of a part after an exchange.
func (o outline) exchangedText(part int, swap exchange) string {
	if part < len(o.model.Rules) {
		return ruleText(swap.rule(o.model.Rules[part]))
	}
	return lawText(swap.law(o.model.Laws[part-len(o.model.Rules)]))
}

// classes returns the classes of devices: it is enough to compare a device with the first one of each class.
func (o outline) classes() [][]int {
	var classes [][]int
search:
	for _, device := range slices.Sorted(maps.Keys(o.vars)) {
		for i, class := range classes {
			if o.exchangeable(class[0], device) {
				classes[i] = append(class, device)
				continue search
			}
		}
		classes = append(classes, []int{device})
	}
	return classes
}
