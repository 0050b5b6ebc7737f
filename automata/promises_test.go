package automata_test

import (
	"math/rand"
	"slices"
	"testing"

	"domicile/api"
	"domicile/automata"
)

// each calls a function with automata and configurations that random runs of them reach.
func each(seed int64, n int, call func(m maker, a api.Automaton, c api.Config)) {
	m := maker{rand.New(rand.NewSource(seed))}
	for range n {
		a := m.automaton()
		run, _ := refRun(a, m.walk(a, 6))
		call(m, a, refStart(a))
		for _, c := range run {
			call(m, a, c)
		}
	}
}

// refStart returns the first configuration.
func refStart(a api.Automaton) api.Config {
	return api.Config{Loc: a.Start, Clocks: make([]int, a.Clocks)}
}

// P12.2: waiting twice is waiting for the sum; who can wait can wait for less.
func TestWaitingTwice(t *testing.T) {
	both := 0
	each(10, 4000, func(m maker, a api.Automaton, c api.Config) {
		x, y := m.Intn(5), m.Intn(5)
		once, errOnce := automata.Wait(a, c, x+y)
		first, err := automata.Wait(a, c, x)
		if err != api.OK {
			if errOnce == api.OK {
				t.Errorf("%+v: %v can wait for %v, but not for %v", a, c, x+y, x)
			}
			return
		}
		second, err := automata.Wait(a, first, y)
		if err != errOnce || !equal(once, second) {
			t.Errorf("%+v: %v after %v and %v is %v, %v, and at once %v, %v", a, c, x, y, second, err, once, errOnce)
		}
		if err == api.OK {
			both++
		}
	})
	if both < 2000 {
		t.Errorf("%d waits", both)
	}
}

// P12.3, P12.4: what an edge does; Enabled has exactly the edges that can be taken.
func TestEdges(t *testing.T) {
	taken, refused := 0, 0
	each(11, 4000, func(_ maker, a api.Automaton, c api.Config) {
		enabled := automata.Enabled(a, c)
		if !slices.IsSorted(enabled) {
			t.Errorf("the enabled edges are %v", enabled)
		}
		for i, e := range a.Edges {
			next, err := automata.Take(a, c, i)
			if (err == api.OK) != slices.Contains(enabled, i) || err != api.OK && err != api.ErrState {
				t.Errorf("%+v: in %v the edge %v has %v, and %v are enabled", a, c, i, err, enabled)
			}
			if err != api.OK {
				refused++
				continue
			}
			taken++
			for clock, value := range next.Clocks {
				want := c.Clocks[clock]
				if slices.Contains(e.Resets, clock) {
					want = 0
				}
				if value != want || value > a.Locs[e.To].Upper[clock] {
					t.Errorf("%+v: after %v and the edge %v: %v", a, c, i, next)
				}
			}
			if next.Loc != e.To || len(next.Clocks) != a.Clocks {
				t.Errorf("%+v: the edge %v leads to %v", a, i, next)
			}
		}
	})
	if taken < 2000 || refused < 2000 {
		t.Errorf("%d edges and %d", taken, refused)
	}
}

// P12.5: each configuration of a run follows from the one before; beginnings of runs are runs.
func TestRuns(t *testing.T) {
	m := maker{rand.New(rand.NewSource(12))}
	long := 0
	for range 4000 {
		a := m.automaton()
		l := m.walk(a, 8)
		run, err := automata.Run(a, l)
		if err != api.OK || len(run) != len(l) {
			t.Fatalf("Run(%+v, %v) = %v, %v", a, l, run, err)
		}
		if len(l) > 5 {
			long++
		}
		c := automata.Start(a)
		for i, move := range l {
			c, err = automata.Wait(a, c, move.Wait)
			if err == api.OK && move.Edge != -1 {
				c, err = automata.Take(a, c, move.Edge)
			}
			if err != api.OK || !equal(c, run[i]) {
				t.Errorf("Run(%+v, %v) = %v, but %v, %v", a, l, run, c, err)
			}
			if part, err := automata.Run(a, l[:i]); err != api.OK || !allEqual(part, run[:i]) {
				t.Errorf("the first %d of Run(%+v, %v) are %v, %v", i, a, l, part, err)
			}
		}
	}
	if long < 1000 {
		t.Errorf("%d long runs", long)
	}
}

// P12.6: the times at which an edge can be taken have no gaps.
func TestIntervals(t *testing.T) {
	found := 0
	each(13, 3000, func(_ maker, a api.Automaton, c api.Config) {
		for i := range a.Edges {
			var times []int
			for n := range 14 {
				if waited, err := automata.Wait(a, c, n); err == api.OK {
					if _, err := automata.Take(a, waited, i); err == api.OK {
						times = append(times, n)
					}
				}
			}
			if len(times) > 1 {
				found++
			}
			for k := 1; k < len(times); k++ {
				if times[k] != times[k-1]+1 {
					t.Errorf("%+v: in %v the edge %v can be taken after %v", a, c, i, times)
				}
			}
		}
	})
	if found < 1000 {
		t.Errorf("%d intervals", found)
	}
}

// alike reports whether two configurations differ only in values above the greatest numbers.
func alike(a, b api.Config, greatest []int) bool {
	if a.Loc != b.Loc {
		return false
	}
	for i := range a.Clocks {
		if a.Clocks[i] != b.Clocks[i] && (a.Clocks[i] <= greatest[i] || b.Clocks[i] <= greatest[i]) {
			return false
		}
	}
	return true
}

// P12.7: values above the greatest numbers do not matter.
func TestGreatValues(t *testing.T) {
	different := 0
	each(14, 4000, func(m maker, a api.Automaton, c api.Config) {
		greatest := automata.Greatest(a)
		other := at(c.Loc, slices.Clone(c.Clocks)...)
		for i := range c.Clocks {
			if c.Clocks[i] > greatest[i] {
				other.Clocks[i] = greatest[i] + 1 + m.Intn(1000000)
				different++
			}
		}
		if !slices.Equal(automata.Enabled(a, c), automata.Enabled(a, other)) {
			t.Errorf("%+v: %v and %v have different edges", a, c, other)
		}
		n := m.Intn(5)
		x, errX := automata.Wait(a, c, n)
		y, errY := automata.Wait(a, other, n)
		if errX != errY || errX == api.OK && !alike(x, y, greatest) {
			t.Errorf("%+v: %v and %v become %v and %v", a, c, other, x, y)
		}
		for i := range a.Edges {
			x, errX := automata.Take(a, c, i)
			y, errY := automata.Take(a, other, i)
			if errX != errY || errX == api.OK && !alike(x, y, greatest) {
				t.Errorf("%+v: %v and %v become %v and %v", a, c, other, x, y)
			}
		}
	})
	if different < 500 {
		t.Errorf("%d clocks are different", different)
	}
}

// P12.8: with greater numbers in invariants and smaller ones in guards, a run is still a run.
func TestLater(t *testing.T) {
	m := maker{rand.New(rand.NewSource(15))}
	for range 4000 {
		a := m.automaton()
		l := m.walk(a, 6)
		run, err := automata.Run(a, l)
		for _, loc := range a.Locs {
			for i, upper := range loc.Upper {
				if upper != api.Infinite && m.chance(2) {
					loc.Upper[i] += m.Intn(5)
				} else if m.chance(2) {
					loc.Upper[i] = api.Infinite
				}
			}
		}
		for _, e := range a.Edges {
			for i, g := range e.Guards {
				e.Guards[i].Least = m.Intn(g.Least + 1)
			}
		}
		if later, errLater := automata.Run(a, l); err != api.OK || errLater != api.OK || !allEqual(run, later) {
			t.Errorf("Run(%+v, %v) = %v, %v, and before %v, %v", a, l, later, errLater, run, err)
		}
	}
}
