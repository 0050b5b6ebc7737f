package replay_test

import (
	"math/rand"
	"slices"

	"domicile/api"
	"domicile/automata"
)

// maker makes up automata, paths and runs.
type maker struct{ *rand.Rand }

func (m maker) chance(n int) bool { return m.Intn(n) == 0 }

// automaton returns a small automaton whose guards and invariants often decide.
func (m maker) automaton() api.Automaton {
	a := api.Automaton{Clocks: m.Intn(4)}
	for range 1 + m.Intn(4) {
		l := api.Loc{}
		for range a.Clocks {
			upper := m.Intn(9)
			if m.chance(2) {
				upper = api.Infinite
			}
			l.Upper = append(l.Upper, upper)
		}
		a.Locs = append(a.Locs, l)
	}
	a.Start = m.Intn(len(a.Locs))
	for range m.Intn(9) {
		a.Edges = append(a.Edges, m.edge(a))
	}
	return a
}

func (m maker) edge(a api.Automaton) api.Edge {
	e := api.Edge{From: m.Intn(len(a.Locs)), To: m.Intn(len(a.Locs)), Label: m.Intn(5) - 2}
	for clock := range a.Clocks {
		if m.chance(3) {
			e.Guards = append(e.Guards, api.Guard{Clock: clock, Least: m.Intn(7)})
		}
		if m.chance(3) {
			e.Resets = append(e.Resets, clock)
		}
	}
	if a.Clocks > 0 && m.chance(4) {
		e.Guards = append(e.Guards, api.Guard{Clock: m.Intn(a.Clocks), Least: m.Intn(7)})
	}
	return e
}

// walk returns a run of at most n moves, found by trying.
func (m maker) walk(a api.Automaton, n int) []api.Move {
	var l []api.Move
	for range 4 * n {
		move := api.Move{Wait: m.Intn(4), Edge: m.Intn(len(a.Edges)+1) - 1}
		next := append(slices.Clone(l), move)
		if _, err := automata.Run(a, next); err == api.OK && len(next) <= n {
			l = next
		}
	}
	return l
}

// path returns edges that follow each other, n of them or as many as there are.
func (m maker) path(a api.Automaton, n int) []int {
	var path []int
	loc := a.Start
	for range n {
		var next []int
		for i, e := range a.Edges {
			if e.From == loc {
				next = append(next, i)
			}
		}
		if len(next) == 0 {
			break
		}
		e := next[m.Intn(len(next))]
		path = append(path, e)
		loc = a.Edges[e].To
	}
	return path
}

// inputs returns inputs of all kinds, many of them waits.
func (m maker) inputs(n int) []api.Input {
	var l []api.Input
	for range n {
		in := api.Input{Kind: m.Intn(5), Var: m.Intn(2), Value: m.Intn(2), Timer: m.Intn(2), Seconds: m.Intn(9) - 2}
		if m.chance(2) {
			in.Kind = api.InWait
		}
		if m.chance(3) {
			in.Seconds = []int{86399, 86400, 86401, 50000, -1 << 63, 1<<63 - 1}[m.Intn(6)]
		}
		l = append(l, in)
	}
	return l
}
