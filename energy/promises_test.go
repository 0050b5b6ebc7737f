package energy_test

import (
	"math/rand"
	"slices"
	"testing"

	"domicile/api"
	"domicile/energy"
)

// larger returns something with more slots than can be tried.
func (m maker) larger() (api.Grid, api.Battery, []api.Load) {
	g := m.grid(1 + m.Intn(12))
	g.Fuse += m.Intn(10)
	b := m.battery(20)
	b.Capacity += m.Intn(10)
	return g, b, m.loads(g, 4)
}

// each calls f with houses that have a best schedule, and the schedule.
func each(seed int64, f func(m maker, g api.Grid, b api.Battery, l []api.Load, s api.Schedule)) {
	m := maker{rand.New(rand.NewSource(seed))}
	for range 400 {
		g, b, l := m.larger()
		if s, err := energy.Best(g, b, l); err == api.OK {
			f(m, g, b, l, s)
		}
	}
}

// P40.2: the best schedule is permitted, and its costs are its costs.
func TestPermitted(t *testing.T) {
	found := 0
	each(402, func(_ maker, g api.Grid, b api.Battery, l []api.Load, s api.Schedule) {
		found++
		cost, ok := refCost(g, b, l, s)
		if !ok || cost != s.Cost || len(s.Starts) != len(l) || len(s.Flow) != len(g.Base) {
			t.Fatalf("Best(%v, %v, %v) = %v, which costs %d", g, b, l, s, cost)
		}
	})
	if found < 200 {
		t.Errorf("only %d houses", found)
	}
}

// P40.3: no changed schedule is better.
func TestLeast(t *testing.T) {
	better := 0
	each(403, func(m maker, g api.Grid, b api.Battery, l []api.Load, s api.Schedule) {
		for range 200 {
			other := api.Schedule{Starts: slices.Clone(s.Starts), Flow: slices.Clone(s.Flow)}
			for range 1 + m.Intn(2) {
				if n := len(l); n > 0 && m.chance(3) {
					other.Starts[m.Intn(n)] = m.Intn(len(g.Base))
				}
				i, k := m.Intn(len(g.Base)), m.Intn(len(g.Base))
				other.Flow[i]++
				other.Flow[k]--
			}
			cost, ok := refCost(g, b, l, other)
			if !ok {
				continue
			}
			better++
			less := slices.Compare(other.Starts, s.Starts) < 0 || slices.Equal(other.Starts, s.Starts) && slices.Compare(other.Flow, s.Flow) < 0
			if cost < s.Cost || cost == s.Cost && less {
				t.Fatalf("Best(%v, %v, %v) = %v, but %v costs %d", g, b, l, s, other, cost)
			}
		}
	})
	if better < 2000 {
		t.Errorf("only %d schedules", better)
	}
}

// P40.4: with more freedom it does not cost more.
func TestMoreFreedom(t *testing.T) {
	cheaper := 0
	each(404, func(m maker, g api.Grid, b api.Battery, l []api.Load, s api.Schedule) {
		l = slices.Clone(l)
		switch m.Intn(4) {
		case 0:
			g.Fuse += 1 + m.Intn(9)
		case 1:
			b.Capacity = min(20, b.Capacity+1+m.Intn(3))
		case 2:
			b.Power = min(20, b.Power+1+m.Intn(3))
		case 3:
			if len(l) == 0 {
				return
			}
			x := &l[m.Intn(len(l))]
			x.First, x.Last = m.Intn(x.First+1), x.Last+m.Intn(len(g.Base)-x.Last)
		}
		more, err := energy.Best(g, b, l)
		if err == api.ErrLimit {
			return
		}
		if err != api.OK || more.Cost > s.Cost {
			t.Fatalf("Best(%v, %v, %v) = %v, %d, but with less freedom %v", g, b, l, more, err, s)
		}
		if more.Cost < s.Cost {
			cheaper++
		}
	})
	if cheaper < 30 {
		t.Errorf("only %d are cheaper", cheaper)
	}
}

// P40.5: with greater prices it does not cost less; multiplied prices keep the schedule.
func TestPrices(t *testing.T) {
	each(405, func(m maker, g api.Grid, b api.Battery, l []api.Load, s api.Schedule) {
		k := 2 + m.Intn(9)
		times, worn := g, b
		times.Price = slices.Clone(g.Price)
		for i := range times.Price {
			times.Price[i] *= k
		}
		worn.Wear *= k
		want := s
		want.Cost *= k
		if got, err := energy.Best(times, worn, l); err != api.OK || !same(got, want) {
			t.Fatalf("Best(%v, %v, %v) = %v, %d, want %v", times, worn, l, got, err, want)
		}
		dear := g
		dear.Price = slices.Clone(g.Price)
		dear.Price[m.Intn(len(dear.Price))] += m.Intn(5)
		b.Wear += m.Intn(3)
		if got, err := energy.Best(dear, b, l); err != api.OK || got.Cost < s.Cost {
			t.Fatalf("Best(%v, %v, %v) = %v, %d, but before %v", dear, b, l, got, err, s)
		}
	})
}

// P40.6, P40.7: without a load it does not cost more; without a battery the costs are those of the starts.
func TestLess(t *testing.T) {
	loads := 0
	each(406, func(m maker, g api.Grid, b api.Battery, l []api.Load, s api.Schedule) {
		if n := len(l); n > 0 {
			loads++
			i := m.Intn(n)
			less := slices.Delete(slices.Clone(l), i, i+1)
			if got, err := energy.Best(g, b, less); err != api.OK || got.Cost > s.Cost {
				t.Fatalf("Best(%v, %v, %v) = %v, %d, but with one more load %v", g, b, less, got, err, s)
			}
		}
		for _, none := range []api.Battery{{Capacity: b.Capacity, Charge: b.Charge, Wear: 9}, {Power: b.Power}} {
			got, err := energy.Best(g, none, l)
			if err != api.OK {
				continue
			}
			want := 0
			for slot, base := range g.Base {
				want += base * g.Price[slot]
			}
			for i, x := range l {
				for slot := got.Starts[i]; slot < got.Starts[i]+x.Length; slot++ {
					want += x.Power * g.Price[slot]
				}
			}
			if got.Cost != want || slices.ContainsFunc(got.Flow, func(n int) bool { return n != 0 }) {
				t.Fatalf("Best(%v, %v, %v) = %v", g, none, l, got)
			}
		}
	})
	if loads < 100 {
		t.Errorf("only %d loads", loads)
	}
}
