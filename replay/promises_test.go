package replay_test

import (
	"math/rand"
	"slices"
	"testing"

	"domicile/api"
	"domicile/automata"
	"domicile/replay"
	"domicile/rules"
	"domicile/translate"
	"domicile/zones"
)

// moves returns the moves of a timed path.
func moves(path, waits []int) []api.Move {
	var l []api.Move
	for i, e := range path {
		l = append(l, api.Move{Wait: waits[i], Edge: e})
	}
	return l
}

// P17.2, P17.4: there is a run with the waits; beginnings of paths with times have times that are not later.
func TestRuns(t *testing.T) {
	m := maker{rand.New(rand.NewSource(10))}
	runs := 0
	for range 3000 {
		a := m.automaton()
		path := m.path(a, 1+m.Intn(12))
		waits, ok := replay.Times(a, path)
		if !ok {
			continue
		}
		runs++
		if _, err := automata.Run(a, moves(path, waits)); err != api.OK {
			t.Errorf("%+v: the waits %v before the edges %v: %v", a, waits, path, err)
		}
		for n := range path {
			part, ok := replay.Times(a, path[:n])
			early, late := 0, 0
			for i := range part {
				early, late = early+part[i], late+waits[i]
				if early > late {
					t.Errorf("%+v: the waits for %v are %v, those for a part %v", a, path, waits, part)
				}
			}
			if !ok {
				t.Errorf("%+v: there are times for %v, but not for the first %v", a, path, n)
			}
		}
	}
	if runs < 500 {
		t.Errorf("%d runs", runs)
	}
}

// P17.3: for the edges of a run there are times, and the run takes none of them earlier.
func TestEarliest(t *testing.T) {
	m := maker{rand.New(rand.NewSource(11))}
	edges := 0
	for range 4000 {
		a := m.automaton()
		var path, times []int
		now := 0
		for _, move := range m.walk(a, 8) {
			now += move.Wait
			if move.Edge != -1 {
				path, times = append(path, move.Edge), append(times, now)
			}
		}
		waits, ok := replay.Times(a, path)
		if !ok {
			t.Fatalf("%+v: there are no times for %v", a, path)
		}
		early := 0
		for i, n := range waits {
			early += n
			edges++
			if early > times[i] {
				t.Errorf("%+v: a run takes %v at %v, earlier than after the waits %v", a, path, times, waits)
			}
		}
	}
	if edges < 5000 {
		t.Errorf("%d edges", edges)
	}
}

// P17.5: there are times for the paths of all nodes of a symbolic graph.
func TestGraphs(t *testing.T) {
	m := maker{rand.New(rand.NewSource(12))}
	for range 3000 {
		a := m.automaton()
		nodes, _ := zones.Explore(a)
		for i := range nodes {
			if waits, ok := replay.Times(a, zones.Path(nodes, i)); !ok {
				t.Errorf("%+v: the path %v has %v", a, zones.Path(nodes, i), waits)
			}
		}
	}
}

// lamp returns a model with sensors, timers and laws.
func (m maker) lamp() api.Model {
	model := api.Model{Vars: []api.Var{{Size: 2, Sensor: true}, {Size: 3}, {Size: 2, Sensor: m.chance(2)}}, Timers: 2}
	atom := func() api.Atom {
		v := m.Intn(3)
		return api.Atom{Var: v, Op: api.OpEq + m.Intn(2), Value: m.Intn(model.Vars[v].Size)}
	}
	for range 2 + m.Intn(5) {
		r := api.Rule{Timer: m.Intn(3) - 1, Sets: []api.Set{{Var: 1, Value: m.Intn(3)}}}
		if r.Timer == -1 {
			r.Trigger = atom()
		}
		if m.chance(2) {
			r.Starts = []api.Start{{Timer: m.Intn(2), Seconds: m.Intn(5)}}
		}
		model.Rules = append(model.Rules, r)
	}
	for range 1 + m.Intn(2) {
		model.Laws = append(model.Laws, api.Law{Cond: []api.Atom{atom(), atom()}, Bound: m.Intn(5)})
	}
	return model
}

// P17.6: the inputs for a path of a translated model are a run of it that leads to the last place.
func TestModels(t *testing.T) {
	m := maker{rand.New(rand.NewSource(13))}
	broken, paths := 0, 0
	for range 1500 {
		model := m.lamp()
		g, err := translate.Build(model)
		if err != api.OK {
			t.Fatalf("Build(%+v): %v", model, err)
		}
		for range 10 {
			path := m.path(g.Automaton, 1+m.Intn(6))
			waits, ok := replay.Times(g.Automaton, path)
			if !ok || len(path) == 0 {
				continue
			}
			l, err := replay.Inputs(g, path, waits)
			if err != api.OK {
				t.Fatalf("Inputs of %v, %v: %v", path, waits, err)
			}
			steps, err := rules.Run(model, l)
			if err != api.OK {
				t.Fatalf("%+v: %v is no run: %v", model, l, err)
			}
			s := rules.Start(model)
			if len(steps) > 0 {
				s = steps[len(steps)-1].State
			}
			place := g.Places[g.Automaton.Edges[path[len(path)-1]].To]
			if place.Bad != -1 {
				broken++
				if !slices.Contains(rules.Broken(model, s), place.Bad) {
					t.Errorf("%+v: after %v the law %v is not broken", model, l, place.Bad)
				}
				continue
			}
			paths++
			same := slices.Equal(place.Values, s.Values)
			for timer, seconds := range place.Timers {
				same = same && (seconds > 0) == (s.Left[timer] >= 0)
			}
			for law, holds := range place.Laws {
				same = same && holds == (s.Over[law] >= 0)
			}
			if !same {
				t.Errorf("%+v: after %v the state is %v, the place %+v", model, l, s, place)
			}
		}
	}
	if broken < 300 || paths < 2000 {
		t.Errorf("%d broken laws, %d other paths", broken, paths)
	}
}

// seconds returns the sum of all waits from 1 to 86400 seconds.
func seconds(l []api.Input) int {
	n := 0
	for _, in := range l {
		if in.Kind == api.InWait && in.Seconds >= 1 && in.Seconds <= 86400 {
			n += in.Seconds
		}
	}
	return n
}

// P17.7: what Clean keeps.
func TestCleanRuns(t *testing.T) {
	m := maker{rand.New(rand.NewSource(14))}
	for range 20000 {
		l := m.inputs(m.Intn(12))
		clean := replay.Clean(l)
		if replay.Length(clean) != replay.Length(l) || seconds(clean) != seconds(l) || !slices.Equal(replay.Clean(clean), clean) {
			t.Errorf("Clean(%v) = %v", l, clean)
		}
	}
	shorter := 0
	for range 1500 {
		model := m.lamp()
		s := rules.Start(model)
		var l []api.Input
		for range 20 {
			inputs := rules.Inputs(model, s)
			in := inputs[m.Intn(len(inputs))]
			if m.chance(2) {
				in = inputs[len(inputs)-1]
			}
			step, _ := rules.Apply(model, s, in)
			s = step.State
			l = append(l, in)
		}
		clean := replay.Clean(l)
		if len(clean) < len(l) {
			shorter++
		}
		steps, err := rules.Run(model, clean)
		if err != api.OK || len(steps) == 0 {
			t.Fatalf("%+v: %v is no run: %v", model, clean, err)
		}
		last := steps[len(steps)-1].State
		if !slices.Equal(last.Values, s.Values) || !slices.Equal(last.Left, s.Left) || !slices.Equal(last.Over, s.Over) {
			t.Errorf("%+v: %v leads to %v, and %v to %v", model, l, s, clean, last)
		}
	}
	if shorter < 500 {
		t.Errorf("%d runs became shorter", shorter)
	}
}
