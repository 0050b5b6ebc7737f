package translate_test

import (
	"reflect"
	"slices"

	"domicile/api"
	"domicile/rules"
)

// refAtoms returns the comparisons of a part.
func refAtoms(m api.Model, part int) []api.Atom {
	if part >= len(m.Rules) {
		return m.Laws[part-len(m.Rules)].Cond
	}
	r := m.Rules[part]
	if r.Timer < 0 {
		return append([]api.Atom{r.Trigger}, r.Guard...)
	}
	return r.Guard
}

// refUsesVar says whether a part uses a variable.
func refUsesVar(m api.Model, part, v int) bool {
	if slices.ContainsFunc(refAtoms(m, part), func(a api.Atom) bool { return a.Var == v }) {
		return true
	}
	return part < len(m.Rules) && refSets(m.Rules[part], v)
}

// refSets says whether a rule sets a variable.
func refSets(r api.Rule, v int) bool {
	return slices.ContainsFunc(r.Sets, func(s api.Set) bool { return s.Var == v })
}

// refUsesTimer says whether a part uses a timer.
func refUsesTimer(m api.Model, part, timer int) bool {
	if part >= len(m.Rules) {
		return false
	}
	r := m.Rules[part]
	return r.Timer == timer || slices.ContainsFunc(r.Starts, func(s api.Start) bool { return s.Timer == timer })
}

// refLinked says whether two parts are linked.
func refLinked(m api.Model, a, b int) bool {
	for timer := range m.Timers {
		if refUsesTimer(m, a, timer) && refUsesTimer(m, b, timer) {
			return true
		}
	}
	for v := range m.Vars {
		changed := slices.ContainsFunc(m.Rules, func(r api.Rule) bool { return refSets(r, v) })
		if changed && refUsesVar(m, a, v) && refUsesVar(m, b, v) {
			return true
		}
	}
	return false
}

// refGroups returns the groups: each part spreads its number over all parts that are linked with it.
func refGroups(m api.Model) [][]int {
	n := len(m.Rules) + len(m.Laws)
	number := make([]int, n)
	for i := range number {
		number[i] = i
	}
	for range n {
		for a := range n {
			for b := range n {
				if refLinked(m, a, b) {
					number[a] = min(number[a], number[b])
				}
			}
		}
	}
	var list [][]int
	for i := range n {
		var group []int
		for part := range n {
			if number[part] == i {
				group = append(group, part)
			}
		}
		if len(group) > 0 {
			list = append(list, group)
		}
	}
	return list
}

// refPart returns the model of a list of parts.
func refPart(m api.Model, group []int) api.Model {
	p := api.Model{Timers: m.Timers}
	for v, variable := range m.Vars {
		variable.Sensor = variable.Sensor && slices.ContainsFunc(group, func(part int) bool { return refUsesVar(m, part, v) })
		p.Vars = append(p.Vars, variable)
	}
	for _, part := range group {
		if part < len(m.Rules) {
			p.Rules = append(p.Rules, m.Rules[part])
		} else {
			p.Laws = append(p.Laws, m.Laws[part-len(m.Rules)])
		}
	}
	for _, pair := range m.Over {
		pair.Winner, pair.Loser = slices.Index(group, pair.Winner), slices.Index(group, pair.Loser)
		if min(pair.Winner, pair.Loser) >= 0 {
			p.Over = append(p.Over, pair)
		}
	}
	return p
}

// refClocks returns the clock of each timer that is started, -1 for the others; the clocks of laws follow.
func refClocks(m api.Model) (timers []int, n int) {
	for timer := range m.Timers {
		clock := -1
		for _, r := range m.Rules {
			for _, s := range r.Starts {
				if s.Timer == timer && s.Seconds > 0 {
					clock = n
				}
			}
		}
		if clock >= 0 {
			n++
		}
		timers = append(timers, clock)
	}
	return timers, n
}

// refPlace returns the place of the values and timers.
func refPlace(m api.Model, values, timers []int) api.Place {
	p := api.Place{Values: values, Timers: timers, Bad: -1}
	for _, l := range m.Laws {
		all := true
		for _, a := range l.Cond {
			all = all && rules.Holds(a, values)
		}
		p.Laws = append(p.Laws, all)
	}
	return p
}

// refStep returns the place and the label after an input at a place, and the resets.
func refStep(m api.Model, p api.Place, in api.Input) (api.Place, api.Label, []int) {
	s := api.State{Values: p.Values}
	for timer, seconds := range p.Timers {
		switch {
		case in.Kind == api.InExpire && in.Timer == timer:
			s.Left = append(s.Left, 0)
		case seconds == 0:
			s.Left = append(s.Left, -1)
		default:
			s.Left = append(s.Left, 1)
		}
	}
	for _, holds := range p.Laws {
		s.Over = append(s.Over, map[bool]int{true: 0, false: -1}[holds])
	}
	step, err := rules.Apply(m, s, in)
	if err != api.OK {
		panic(err)
	}
	timers := slices.Clone(p.Timers)
	if in.Kind == api.InExpire {
		timers[in.Timer] = 0
	}
	label := api.Label{Input: in, Clashes: step.Clashes, Endless: step.Endless, Law: -1}
	clocks, n := refClocks(m)
	reset := make([]bool, n+len(m.Laws))
	for _, f := range step.Firings {
		if !slices.Contains(label.Rules, f.Rule) {
			label.Rules = append(label.Rules, f.Rule)
		}
		for _, start := range m.Rules[f.Rule].Starts {
			timers[start.Timer] = start.Seconds
			if clocks[start.Timer] >= 0 {
				reset[clocks[start.Timer]] = start.Seconds > 0
			}
		}
	}
	slices.Sort(label.Rules)
	next := refPlace(m, step.State.Values, timers)
	for l := range m.Laws {
		reset[n+l] = next.Laws[l] && !p.Laws[l]
	}
	var resets []int
	for clock, is := range reset {
		if is {
			resets = append(resets, clock)
		}
	}
	return next, label, resets
}

// refBuild returns the automaton of a well-formed model.
func refBuild(m api.Model) (api.Image, api.Errno) {
	clocks, n := refClocks(m)
	g := api.Image{Automaton: api.Automaton{Clocks: n + len(m.Laws)}}
	var values []int
	for _, v := range m.Vars {
		values = append(values, v.Start)
	}
	g.Places = []api.Place{refPlace(m, values, make([]int, m.Timers))}
	add := func(from int, to api.Place, label api.Label, guards []api.Guard, resets []int) {
		i := slices.IndexFunc(g.Places, func(p api.Place) bool { return reflect.DeepEqual(normal(p), normal(to)) })
		if i < 0 {
			i = len(g.Places)
			g.Places = append(g.Places, to)
		}
		g.Automaton.Edges = append(g.Automaton.Edges, api.Edge{From: from, To: i, Label: len(g.Labels), Guards: guards, Resets: resets})
		g.Labels = append(g.Labels, label)
	}
	for from := 0; from < len(g.Places); from++ {
		p := g.Places[from]
		for v := range p.Values {
			for value := range m.Vars[v].Size {
				if m.Vars[v].Sensor && value != p.Values[v] {
					next, label, resets := refStep(m, p, api.Input{Kind: api.InSet, Var: v, Value: value})
					add(from, next, label, nil, resets)
				}
			}
		}
		for timer, seconds := range p.Timers {
			if seconds > 0 {
				next, label, resets := refStep(m, p, api.Input{Kind: api.InExpire, Timer: timer})
				add(from, next, label, []api.Guard{{Clock: clocks[timer], Least: seconds}}, resets)
			}
		}
		for l, holds := range p.Laws {
			if holds {
				add(from, api.Place{Bad: l}, api.Label{Law: l}, []api.Guard{{Clock: n + l, Least: m.Laws[l].Bound + 1}}, nil)
			}
		}
		if len(g.Places) > 400 || len(g.Labels) > 8000 || g.Automaton.Clocks > 12 {
			return api.Image{}, api.ErrLimit
		}
	}
	for _, p := range g.Places {
		l := api.Loc{Upper: slices.Repeat([]int{1 << 40}, g.Automaton.Clocks)}
		for timer, seconds := range p.Timers {
			if seconds > 0 {
				l.Upper[clocks[timer]] = seconds
			}
		}
		g.Automaton.Locs = append(g.Automaton.Locs, l)
	}
	return g, api.OK
}

// normal returns a place whose empty slices are nil.
func normal(p api.Place) api.Place {
	p.Values, p.Timers, p.Laws = append([]int(nil), p.Values...), append([]int(nil), p.Timers...), append([]bool(nil), p.Laws...)
	return p
}
