package translate_test

import (
	"math/rand"
	"slices"
	"testing"

	"domicile/api"
	"domicile/automata"
	"domicile/rules"
	"domicile/translate"
)

// P13.2: each part is in exactly one group; parts that use the same timer, or a variable that a rule sets, are together.
func TestGroupPromises(t *testing.T) {
	m := maker{rand.New(rand.NewSource(10))}
	for range 2000 {
		model := m.model(1+m.Intn(6), 2+m.Intn(5))
		at := make([]int, len(model.Rules)+len(model.Laws))
		for i, group := range translate.Groups(model) {
			for _, part := range group {
				at[part] += 1 + 1000*i
			}
		}
		for a := range at {
			if at[a]%1000 != 1 {
				t.Fatalf("%+v: the part %v is in %v groups", model, a, at[a]%1000)
			}
			for b := range at {
				if refLinked(model, a, b) && at[a] != at[b] {
					t.Errorf("%+v: the parts %v and %v are linked", model, a, b)
				}
			}
		}
	}
}

// P13.3: the model of a group has at most one group, and all groups together have all rules and laws.
func TestGroupsOfGroups(t *testing.T) {
	m := maker{rand.New(rand.NewSource(11))}
	for range 2000 {
		model := m.model(1+m.Intn(6), 2+m.Intn(5))
		count, laws := 0, 0
		for _, group := range translate.Groups(model) {
			part, err := translate.Part(model, group)
			if err != api.OK || !rules.Valid(part) || len(translate.Groups(part)) > 1 {
				t.Errorf("%+v: the group %v has the groups %v", model, group, translate.Groups(part))
			}
			count, laws = count+len(part.Rules), laws+len(part.Laws)
		}
		if count != len(model.Rules) || laws != len(model.Laws) {
			t.Errorf("%+v: the groups have %v rules and %v laws", model, count, laws)
		}
	}
}

// agree checks that a state of a model is what a configuration of its automaton says.
func agree(t *testing.T, model api.Model, g api.Image, s api.State, c api.Config) {
	t.Helper()
	p := g.Places[c.Loc]
	clocks, n := refClocks(model)
	ok := p.Bad == -1 && slices.Equal(p.Values, s.Values)
	for timer, left := range s.Left {
		ok = ok && (p.Timers[timer] > 0) == (left >= 0)
		ok = ok && (left < 0 || p.Timers[timer]-c.Clocks[clocks[timer]] == left)
	}
	for l, over := range s.Over {
		ok = ok && p.Laws[l] == (over >= 0)
		ok = ok && (over < 0 || over == min(c.Clocks[n+l], model.Laws[l].Bound+1))
	}
	if !ok {
		t.Errorf("%+v: %v is at %v, %+v", model, s, c, p)
	}
	// P13.6: the edge to the place of a broken law can be taken exactly if the law is broken.
	var broken []int
	for _, i := range automata.Enabled(g.Automaton, c) {
		if law := g.Labels[i].Law; law >= 0 {
			if place := g.Places[g.Automaton.Edges[i].To]; place.Bad != law || len(place.Values)+len(place.Timers)+len(place.Laws) > 0 {
				t.Errorf("the place of the broken law %v is %+v", law, place)
			}
			broken = append(broken, law)
		}
	}
	if !slices.Equal(broken, rules.Broken(model, s)) {
		t.Errorf("%+v: in %v the laws %v are broken, want %v", model, s, broken, rules.Broken(model, s))
	}
}

// P13.4, P13.6: every run of the model is one of the automaton.
func TestSimulation(t *testing.T) {
	m := maker{rand.New(rand.NewSource(12))}
	steps, broken := 0, 0
	for range 1200 {
		model := m.model(1+m.Intn(4), 2+m.Intn(3))
		g, err := translate.Build(model)
		if err != api.OK {
			continue
		}
		if !automata.Valid(g.Automaton) {
			t.Fatalf("Build(%+v) = %+v is not well-formed", model, g)
		}
		s, c := rules.Start(model), automata.Start(g.Automaton)
		agree(t, model, g, s, c)
		for range 25 {
			in, ok := m.input(model, s)
			if !ok {
				break
			}
			step, _ := rules.Apply(model, s, in)
			if in.Kind == api.InWait {
				c, err = automata.Wait(g.Automaton, c, in.Seconds)
			} else {
				edge := slices.IndexFunc(g.Automaton.Edges, func(e api.Edge) bool { return e.From == c.Loc && g.Labels[e.Label].Input == in })
				c, err = automata.Take(g.Automaton, c, edge)
				checkLabel(t, g.Labels[edge], step)
			}
			if err != api.OK {
				t.Fatalf("%+v: %v in %v: %v", model, in, s, err)
			}
			s = step.State
			agree(t, model, g, s, c)
			steps++
			broken += len(rules.Broken(model, s))
		}
	}
	if steps < 10000 || broken < 300 {
		t.Errorf("%d steps, %d broken laws", steps, broken)
	}
}

// checkLabel checks that a label says what a step does.
func checkLabel(t *testing.T, l api.Label, step api.Step) {
	t.Helper()
	for i, rule := range l.Rules {
		if i > 0 && l.Rules[i-1] >= rule || !slices.ContainsFunc(step.Firings, func(f api.Firing) bool { return f.Rule == rule }) {
			t.Errorf("the rules %v, and %+v", l.Rules, step)
		}
	}
	for _, f := range step.Firings {
		if !slices.Contains(l.Rules, f.Rule) {
			t.Errorf("the rules %v, and %+v", l.Rules, step)
		}
	}
	if l.Law != -1 || l.Endless != step.Endless || !slices.Equal(l.Clashes, step.Clashes) {
		t.Errorf("the label %+v, and %+v", l, step)
	}
}

// P13.5: every run of the automaton is one of the model.
func TestConversely(t *testing.T) {
	m := maker{rand.New(rand.NewSource(13))}
	steps := 0
	for range 1200 {
		model := m.model(1+m.Intn(4), 2+m.Intn(3))
		g, err := translate.Build(model)
		if err != api.OK {
			continue
		}
		s, c := rules.Start(model), automata.Start(g.Automaton)
		for range 15 {
			n := m.Intn(4)
			if waited, err := automata.Wait(g.Automaton, c, n); err == api.OK && n > 0 {
				step, err := rules.Apply(model, s, api.Input{Kind: api.InWait, Seconds: n})
				if err != api.OK {
					t.Fatalf("%+v: waiting for %v in %v: %v", model, n, s, err)
				}
				c, s = waited, step.State
			}
			enabled := slices.DeleteFunc(automata.Enabled(g.Automaton, c), func(i int) bool { return g.Labels[i].Law != -1 })
			if len(enabled) == 0 {
				continue
			}
			edge := enabled[m.Intn(len(enabled))]
			step, err := rules.Apply(model, s, g.Labels[edge].Input)
			if err != api.OK {
				t.Fatalf("%+v: %+v in %v: %v", model, g.Labels[edge], s, err)
			}
			checkLabel(t, g.Labels[edge], step)
			c, _ = automata.Take(g.Automaton, c, edge)
			s = step.State
			agree(t, model, g, s, c)
			steps++
		}
	}
	if steps < 5000 {
		t.Errorf("%d steps", steps)
	}
}

// P13.7: different locations have different places, and each place has an edge for each input that is ever permitted there.
func TestPlaces(t *testing.T) {
	m := maker{rand.New(rand.NewSource(14))}
	for range 500 {
		model := m.model(1+m.Intn(4), 2+m.Intn(3))
		g, err := translate.Build(model)
		if err != api.OK {
			continue
		}
		for i, p := range g.Places {
			for _, q := range g.Places[:i] {
				if same(p, q) {
					t.Fatalf("%+v has the place %+v twice", model, p)
				}
			}
			var inputs []api.Input
			for _, e := range g.Automaton.Edges {
				if e.From == i && g.Labels[e.Label].Law == -1 {
					inputs = append(inputs, g.Labels[e.Label].Input)
				}
			}
			if p.Bad != -1 {
				if len(inputs) > 0 {
					t.Errorf("the place of a broken law has %v", inputs)
				}
				continue
			}
			s := api.State{Values: p.Values}
			for _, seconds := range p.Timers {
				s.Left = append(s.Left, map[bool]int{true: 0, false: -1}[seconds > 0])
			}
			for _, holds := range p.Laws {
				s.Over = append(s.Over, map[bool]int{true: 0, false: -1}[holds])
			}
			want := slices.DeleteFunc(rules.Inputs(model, s), func(in api.Input) bool { return in.Kind == api.InWait })
			if !slices.Equal(inputs, want) {
				t.Errorf("%+v: %+v has the inputs %v, want %v", model, p, inputs, want)
			}
		}
	}
}

// P13.8: a step of the model of a group is what the whole model does to what the group uses.
func TestGroupSteps(t *testing.T) {
	m := maker{rand.New(rand.NewSource(15))}
	steps := 0
	for range 1500 {
		model := m.model(1+m.Intn(6), 3+m.Intn(4))
		s := rules.Start(model)
		for range 8 {
			in, ok := m.input(model, s)
			if !ok {
				break
			}
			whole, _ := rules.Apply(model, s, in)
			for _, group := range translate.Groups(model) {
				steps += checkGroupStep(t, model, group, s, in, whole.State)
			}
			s = whole.State
		}
	}
	if steps < 10000 {
		t.Errorf("%d steps", steps)
	}
}

// checkGroupStep applies an input to the model of a group, if it concerns it; it returns the number of steps.
func checkGroupStep(t *testing.T, model api.Model, group []int, s api.State, in api.Input, whole api.State) int {
	part, _ := translate.Part(model, group)
	before := api.State{Values: s.Values, Left: slices.Clone(s.Left)}
	uses := func(count int, use func(api.Model, int, int) bool) []bool {
		list := make([]bool, count)
		for i := range list {
			list[i] = slices.ContainsFunc(group, func(p int) bool { return use(model, p, i) })
		}
		return list
	}
	vars, timers := uses(len(model.Vars), refUsesVar), uses(model.Timers, refUsesTimer)
	if in.Kind == api.InSet && !vars[in.Var] || in.Kind == api.InExpire && !timers[in.Timer] {
		return 0
	}
	for timer, used := range timers {
		if !used {
			before.Left[timer] = -1
		}
	}
	var after []int
	for _, p := range group {
		if p >= len(model.Rules) {
			before.Over = append(before.Over, s.Over[p-len(model.Rules)])
			after = append(after, whole.Over[p-len(model.Rules)])
		}
	}
	step, err := rules.Apply(part, before, in)
	ok := err == api.OK && slices.Equal(step.State.Over, after)
	for v, used := range vars {
		ok = ok && (!used || step.State.Values[v] == whole.Values[v])
	}
	for timer, used := range timers {
		ok = ok && (!used || step.State.Left[timer] == whole.Left[timer])
	}
	if !ok {
		t.Errorf("%+v: the group %v after %v in %v has %v, %v, the whole %v", model, group, in, s, step.State, err, whole)
	}
	return 1
}
