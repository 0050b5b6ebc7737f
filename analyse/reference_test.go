package analyse_test

import (
	"cmp"
	"fmt"
	"slices"

	"domicile/api"
	"domicile/dbm"
	"domicile/replay"
	"domicile/rules"
	"domicile/translate"
	"domicile/zones"
)

// refPossible says whether there is a next zone.
func refPossible(a api.Automaton, z api.Zone, e api.Edge) bool {
	for _, g := range e.Guards {
		z, _ = dbm.Meet(z, 0, g.Clock+1, -g.Least)
	}
	for _, clock := range e.Resets {
		z = dbm.Reset(z, clock+1)
	}
	for range 2 {
		for clock, upper := range a.Locs[e.To].Upper {
			if upper != api.Infinite {
				z, _ = dbm.Meet(z, clock+1, 0, upper)
			}
		}
		z = dbm.Up(z)
	}
	return dbm.Valid(z)
}

// refInLabel returns the findings in a label.
func refInLabel(l api.Label) []api.Finding {
	var list []api.Finding
	for _, c := range l.Clashes {
		list = append(list, api.Finding{Kind: api.FindClash, First: c.First, Second: c.Second, Var: c.Var, Law: -1})
	}
	if l.Endless {
		list = append(list, api.Finding{Kind: api.FindEndless, First: l.Rules[0], Second: -1, Var: -1, Law: -1})
	}
	if l.Law >= 0 {
		list = append(list, api.Finding{Kind: api.FindLaw, First: -1, Second: -1, Var: -1, Law: l.Law})
	}
	return list
}

// same5 says whether two findings are equal but for their runs.
func same5(a, b api.Finding) bool {
	a.Run, b.Run = nil, nil
	return fmt.Sprint(a) == fmt.Sprint(b)
}

// refFindings returns the findings about a well-formed model, and whether all limits are kept.
func refFindings(m api.Model) ([]api.Finding, bool) {
	var all []api.Finding
	for _, group := range translate.Groups(m) {
		part, _ := translate.Part(m, group)
		g, err := translate.Build(part)
		if err != api.OK {
			return nil, false
		}
		nodes, err := zones.Explore(g.Automaton)
		if err != api.OK {
			return nil, false
		}
		alive := make([]bool, len(part.Rules))
		var list []api.Finding
		for i, n := range nodes {
			for k, e := range g.Automaton.Edges {
				if e.From != n.Loc || !refPossible(g.Automaton, n.Zone, e) {
					continue
				}
				for _, rule := range g.Labels[k].Rules {
					alive[rule] = true
				}
				for _, f := range refInLabel(g.Labels[k]) {
					if slices.ContainsFunc(list, func(other api.Finding) bool { return same5(f, other) }) {
						continue
					}
					path := append(zones.Path(nodes, i), k)
					waits, ok := replay.Times(g.Automaton, path)
					f.Run, err = replay.Inputs(g, path, waits)
					if !ok || err != api.OK {
						return nil, false
					}
					list = append(list, f)
				}
			}
		}
		for rule, is := range alive {
			if !is {
				list = append(list, api.Finding{Kind: api.FindDead, First: rule, Second: -1, Var: -1, Law: -1})
			}
		}
		all = append(all, whole(m, group, list)...)
	}
	slices.SortStableFunc(all, func(a, b api.Finding) int {
		return cmp.Or(cmp.Compare(a.Kind, b.Kind), cmp.Compare(a.First, b.First), cmp.Compare(a.Second, b.Second), cmp.Compare(a.Var, b.Var), cmp.Compare(a.Law, b.Law))
	})
	return all, true
}

// whole returns findings about the model of a group with the rules and laws of the whole model.
func whole(m api.Model, group []int, list []api.Finding) []api.Finding {
	var ruleNumbers, lawNumbers []int
	for _, part := range group {
		if part < len(m.Rules) {
			ruleNumbers = append(ruleNumbers, part)
		} else {
			lawNumbers = append(lawNumbers, part-len(m.Rules))
		}
	}
	var result []api.Finding
	for _, f := range list {
		if f.First >= 0 {
			f.First = ruleNumbers[f.First]
		}
		if f.Second >= 0 {
			f.Second = ruleNumbers[f.Second]
		}
		if f.Law >= 0 {
			f.Law = lawNumbers[f.Law]
		}
		result = append(result, f)
	}
	return result
}

// seen is what exploring second by second finds: each finding with the least number of inputs that are no waits, and the rules that fire.
type seen struct {
	least map[string]int
	fired map[int]bool
}

// name returns a text for a finding.
func name(kind, first, second, v, law int) string { return fmt.Sprint(kind, first, second, v, law) }

// note notes what a step shows that is reached with some inputs.
func (s seen) note(m api.Model, step api.Step, inputs int) {
	add := func(n string) {
		if old, ok := s.least[n]; !ok || inputs < old {
			s.least[n] = inputs
		}
	}
	for _, c := range step.Clashes {
		add(name(api.FindClash, c.First, c.Second, c.Var, -1))
	}
	for _, f := range step.Firings {
		s.fired[f.Rule] = true
	}
	if step.Endless {
		first := step.Firings[0].Rule
		for _, f := range step.Firings {
			first = min(first, f.Rule)
		}
		add(name(api.FindEndless, first, -1, -1, -1))
	}
	for _, law := range rules.Broken(m, step.State) {
		add(name(api.FindLaw, -1, -1, -1, law))
	}
}

// seconds explores a model second by second. It reports false if there are too many states.
func seconds(m api.Model) (seen, bool) {
	result := seen{map[string]int{}, map[int]bool{}}
	found := map[string]bool{}
	level := []api.State{rules.Start(m)}
	for inputs := 0; len(level) > 0; inputs++ {
		var next []api.State
		for i := 0; i < len(level); i++ {
			s := level[i]
			key := fmt.Sprint(s)
			if found[key] {
				continue
			}
			found[key] = true
			if len(found) > 3000 {
				return result, false
			}
			for _, in := range rules.Inputs(m, s) {
				step, _ := rules.Apply(m, s, in)
				if in.Kind == api.InWait {
					result.note(m, step, inputs)
					level = append(level, step.State)
				} else {
					result.note(m, step, inputs+1)
					next = append(next, step.State)
				}
			}
		}
		level = next
	}
	return result, true
}
