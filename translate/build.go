package translate

import (
	"iter"
	"maps"
	"slices"
	"strconv"

	"domicile/api"
	"domicile/rules"
)

// none is the clock of a timer that is never started.
const none = -1

// builder builds the automaton of a model.
type builder struct {
	model       api.Model
	timerClocks []int
	lawClocks   []int
	found       map[string]int // the locations, by the texts of their places
	image       api.Image
}

// exit is an edge of a place.
type exit struct {
	to     api.Place
	guards []api.Guard
	resets []int
	label  api.Label
}

// newBuilder returns the builder of a model, with its clocks.
func newBuilder(m api.Model) *builder {
	b := &builder{model: m, timerClocks: slices.Repeat([]int{none}, m.Timers), found: map[string]int{}}
	for _, r := range m.Rules {
		for _, s := range r.Starts {
			if s.Seconds > 0 {
				b.timerClocks[s.Timer] = 0
			}
		}
	}
	clocks := &b.image.Automaton.Clocks
	for timer, clock := range b.timerClocks {
		if clock != none {
			b.timerClocks[timer] = *clocks
			*clocks++
		}
	}
	for range m.Laws {
		b.lawClocks = append(b.lawClocks, *clocks)
		*clocks++
	}
	return b
}

// build finds all locations and edges, and reports whether they are within the limits.
func (b *builder) build() bool {
	start := rules.Start(b.model)
	b.location(api.Place{Values: start.Values, Timers: make([]int, b.model.Timers), Laws: counting(start), Bad: -1})
	for from := 0; from < len(b.image.Places); from++ {
		for e := range b.exits(b.image.Places[from]) {
			to, ok := b.location(e.to)
			if !ok || len(b.image.Labels) == api.MaxEdges {
				return false
			}
			edge := api.Edge{From: from, To: to, Label: len(b.image.Labels), Guards: e.guards, Resets: e.resets}
			b.image.Automaton.Edges = append(b.image.Automaton.Edges, edge)
			b.image.Labels = append(b.image.Labels, e.label)
		}
	}
	return true
}

// location returns the location of a place, which is a new one if the place is; it reports whether there is room for it.
func (b *builder) location(p api.Place) (int, bool) {
	key := text(p)
	if i, ok := b.found[key]; ok {
		return i, true
	}
	i := len(b.image.Places)
	if i == api.MaxLocs {
		return 0, false
	}
	b.found[key] = i
	b.image.Places = append(b.image.Places, p)
	upper := slices.Repeat([]int{api.Infinite}, b.image.Automaton.Clocks)
	for timer, seconds := range p.Timers {
		if seconds > 0 {
			upper[b.timerClocks[timer]] = seconds
		}
	}
	b.image.Automaton.Locs = append(b.image.Automaton.Locs, api.Loc{Upper: upper})
	return i, true
}

// text returns a text that is different for different places.
func text(p api.Place) string {
	t := strconv.AppendInt(nil, int64(p.Bad), 10)
	for _, n := range slices.Concat(p.Values, p.Timers) {
		t = append(t, ' ')
		t = strconv.AppendInt(t, int64(n), 10)
	}
	for _, holds := range p.Laws {
		t = append(t, ' ')
		t = strconv.AppendBool(t, holds)
	}
	return string(t)
}

// exits yields the edges of a place, in order.
func (b *builder) exits(p api.Place) iter.Seq[exit] {
	return func(yield func(exit) bool) {
		for v, now := range p.Values {
			for value := range b.model.Vars[v].Size {
				if b.model.Vars[v].Sensor && value != now && !yield(b.after(p, api.Input{Kind: api.InSet, Var: v, Value: value})) {
					return
				}
			}
		}
		for timer, seconds := range p.Timers {
			if seconds > 0 && !yield(b.after(p, api.Input{Kind: api.InExpire, Timer: timer})) {
				return
			}
		}
		for law, holds := range p.Laws {
			if holds && !yield(b.breaking(law)) {
				return
			}
		}
	}
}

// breaking returns the edge to the place of a broken law.
func (b *builder) breaking(law int) exit {
	return exit{
		to:     api.Place{Bad: law},
		guards: []api.Guard{{Clock: b.lawClocks[law], Least: b.model.Laws[law].Bound + 1}},
		label:  api.Label{Law: law},
	}
}

// after returns the edge of an input: what its cascade does.
func (b *builder) after(p api.Place, in api.Input) exit {
	var guards []api.Guard
	s, timers := state(p), slices.Clone(p.Timers)
	if in.Kind == api.InExpire {
		guards = []api.Guard{{Clock: b.timerClocks[in.Timer], Least: p.Timers[in.Timer]}}
		s.Left[in.Timer], timers[in.Timer] = 0, 0
	}
	step, _ := rules.Apply(b.model, s, in)
	started := map[int]int{}
	for _, f := range step.Firings {
		for _, start := range b.model.Rules[f.Rule].Starts {
			started[start.Timer] = start.Seconds
		}
	}
	for timer, seconds := range started {
		timers[timer] = seconds
	}
	next := api.Place{Values: step.State.Values, Timers: timers, Laws: counting(step.State), Bad: -1}
	label := api.Label{Input: in, Rules: fired(step), Clashes: step.Clashes, Endless: step.Endless, Law: -1}
	return exit{to: next, guards: guards, resets: b.resets(started, p.Laws, next.Laws), label: label}
}

// resets returns the clocks of timers that were started last with more than 0 seconds, and of laws that begin to hold.
func (b *builder) resets(started map[int]int, before, after []bool) []int {
	var list []int
	for timer := range b.model.Timers {
		if started[timer] > 0 {
			list = append(list, b.timerClocks[timer])
		}
	}
	for law, holds := range after {
		if holds && !before[law] {
			list = append(list, b.lawClocks[law])
		}
	}
	return list
}

// state returns a state of a place; how long timers run and laws hold does not matter to a cascade.
func state(p api.Place) api.State {
	s := api.State{Values: p.Values}
	for _, seconds := range p.Timers {
		if seconds == 0 {
			seconds = -1
		}
		s.Left = append(s.Left, seconds)
	}
	for _, holds := range p.Laws {
		over := -1
		if holds {
			over = 0
		}
		s.Over = append(s.Over, over)
	}
	return s
}

// counting returns, for each law, whether its comparisons hold.
func counting(s api.State) []bool {
	var laws []bool
	for _, over := range s.Over {
		laws = append(laws, over >= 0)
	}
	return laws
}

// fired returns the rules that fire in a step, each once.
func fired(step api.Step) []int {
	set := map[int]bool{}
	for _, f := range step.Firings {
		set[f.Rule] = true
	}
	return slices.Sorted(maps.Keys(set))
}
