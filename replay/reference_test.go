package replay_test

import (
	"slices"

	"domicile/api"
	"domicile/automata"
)

// refIsPath says whether a list is a path of a well-formed automaton.
func refIsPath(a api.Automaton, path []int) bool {
	for i, e := range path {
		if e < 0 || e >= len(a.Edges) {
			return false
		}
		if i == 0 && a.Edges[e].From != a.Start || i > 0 && a.Edges[path[i-1]].To != a.Edges[e].From {
			return false
		}
	}
	return len(path) <= 400 && automata.Valid(a)
}

// refTimes tries all waits that are at most a number: it returns the least time of each edge in runs with the edges of a path, and whether there is a run.
func refTimes(a api.Automaton, path []int, most int) ([]int, bool) {
	least := slices.Repeat([]int{1 << 40}, len(path))
	found := false
	times := make([]int, len(path))
	var search func(c api.Config, i, now int)
	search = func(c api.Config, i, now int) {
		if i == len(path) {
			found = true
			for k := range least {
				least[k] = min(least[k], times[k])
			}
			return
		}
		for wait := range most + 1 {
			waited, err := automata.Wait(a, c, wait)
			if err != api.OK {
				return
			}
			if next, err := automata.Take(a, waited, path[i]); err == api.OK {
				times[i] = now + wait
				search(next, i+1, now+wait)
			}
		}
	}
	search(automata.Start(a), 0, 0)
	if !found {
		return nil, false
	}
	return least, true
}

// refLong returns the least times of a path, found by making edges later until nothing is left to be done.
func refLong(a api.Automaton, path []int) ([]int, bool) {
	times := make([]int, len(path))
	for range len(path) + 2 {
		changed := false
		last := slices.Repeat([]int{-1}, a.Clocks)
		at := func(edge int) int {
			if edge < 0 {
				return 0
			}
			return times[edge]
		}
		possible := true
		later := func(edge, time int) {
			switch {
			case at(edge) >= time:
			case edge < 0:
				possible = false
			default:
				times[edge], changed = time, true
			}
		}
		for i, index := range path {
			e := a.Edges[index]
			later(i, at(i-1))
			for _, g := range e.Guards {
				later(i, at(last[g.Clock])+g.Least)
			}
			for clock, upper := range a.Locs[e.From].Upper {
				if upper < 1<<40 {
					later(last[clock], times[i]-upper)
				}
			}
			for _, clock := range e.Resets {
				last[clock] = i
			}
			for clock, upper := range a.Locs[e.To].Upper {
				if upper < 1<<40 {
					later(last[clock], times[i]-upper)
				}
			}
		}
		if !possible {
			return nil, false
		}
		if !changed {
			return times, true
		}
	}
	return nil, false
}

// refWaits returns the waits for a number of seconds.
func refWaits(n int) []api.Input {
	l := slices.Repeat([]api.Input{{Kind: api.InWait, Seconds: 86400}}, n/86400)
	if n%86400 > 0 {
		l = append(l, api.Input{Kind: api.InWait, Seconds: n % 86400})
	}
	return l
}

// refInputs returns the inputs of a timed path.
func refInputs(g api.Image, path, waits []int) ([]api.Input, api.Errno) {
	bad := len(path) != len(waits)
	for _, p := range path {
		bad = bad || p < 0 || p >= len(g.Labels)
	}
	for _, n := range waits {
		bad = bad || n < 0 || n > 1000000000
	}
	if bad {
		return nil, api.ErrArg
	}
	var l []api.Input
	for i, p := range path {
		l = append(l, refWaits(waits[i])...)
		if g.Labels[p].Law == -1 {
			l = append(l, g.Labels[p].Input)
		}
	}
	if len(l) > 400 {
		return nil, api.ErrLimit
	}
	return l, api.OK
}

// refClean returns a clean run: two waits that follow each other are joined, one pair after the other.
func refClean(l []api.Input) []api.Input {
	var list []api.Input
	for _, in := range l {
		if in.Kind != api.InWait || in.Seconds > 0 {
			list = append(list, in)
		}
	}
	short := func(in api.Input) bool { return in.Kind == api.InWait && in.Seconds <= 86400 }
	var result []api.Input
	for i := 0; i < len(list); {
		if !short(list[i]) {
			result = append(result, list[i])
			i++
			continue
		}
		sum := 0
		for ; i < len(list) && short(list[i]); i++ {
			sum += list[i].Seconds
		}
		result = append(result, refWaits(sum)...)
	}
	return result
}
