package translate

import "domicile/api"

// thing is a timer or a variable, which parts can use.
type thing struct {
	timer bool
	index int
}

// uses returns the timers and variables that a part of a model uses.
func uses(m api.Model, part int) []thing {
	if part >= len(m.Rules) {
		return atomVars(m.Laws[part-len(m.Rules)].Cond...)
	}
	r := m.Rules[part]
	list := atomVars(r.Guard...)
	if r.Timer == -1 {
		list = append(list, atomVars(r.Trigger)...)
	} else {
		list = append(list, thing{timer: true, index: r.Timer})
	}
	for _, s := range r.Sets {
		list = append(list, thing{index: s.Var})
	}
	for _, s := range r.Starts {
		list = append(list, thing{timer: true, index: s.Timer})
	}
	return list
}

// atomVars returns the variables of comparisons.
func atomVars(atoms ...api.Atom) []thing {
	var list []thing
	for _, a := range atoms {
		list = append(list, thing{index: a.Var})
	}
	return list
}

// changedVars returns, for each variable, whether some rule sets it: sensors alone link no parts.
func changedVars(m api.Model) []bool {
	changed := make([]bool, len(m.Vars))
	for _, r := range m.Rules {
		for _, s := range r.Sets {
			changed[s.Var] = true
		}
	}
	return changed
}

// classes has, for each part, another part of its class, or itself if it stands for the class.
type classes []int

// newClasses returns the classes of n parts, each one alone.
func newClasses(n int) classes {
	c := make(classes, n)
	for i := range c {
		c[i] = i
	}
	return c
}

// find returns the part that stands for the class of a part.
func (c classes) find(part int) int {
	for c[part] != part {
		c[part] = c[c[part]]
		part = c[part]
	}
	return part
}

// join makes one class of those of two parts.
func (c classes) join(a, b int) { c[c.find(a)] = c.find(b) }

// lists returns the classes, ordered by their first parts.
func (c classes) lists() [][]int {
	var lists [][]int
	place := map[int]int{}
	for part := range c {
		root := c.find(part)
		i, ok := place[root]
		if !ok {
			i = len(lists)
			place[root] = i
			lists = append(lists, nil)
		}
		lists[i] = append(lists[i], part)
	}
	return lists
}
