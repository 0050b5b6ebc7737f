package energy_test

import (
	"math/rand"
	"slices"

	"domicile/api"
)

func in(n, low, high int) bool { return n >= low && n <= high }

func refValid(g api.Grid, b api.Battery, l []api.Load) bool {
	n := len(g.Base)
	if n < 1 || n > 24 || len(g.Price) != n || !in(g.Fuse, 0, 1000) || len(l) > 8 {
		return false
	}
	for i := range n {
		if !in(g.Base[i], 0, 100) || !in(g.Price[i], 0, 100) {
			return false
		}
	}
	for _, x := range l {
		if !in(x.Power, 1, 100) || x.First < 0 || x.Last >= n || x.Last < x.First || !in(x.Length, 1, x.Last-x.First+1) {
			return false
		}
	}
	return in(b.Capacity, 0, 20) && in(b.Power, 0, 20) && in(b.Charge, 0, b.Capacity) && in(b.Wear, 0, 100)
}

// refCost returns the costs of a schedule, and whether it is permitted, straight from the definition.
func refCost(g api.Grid, b api.Battery, l []api.Load, s api.Schedule) (int, bool) {
	for i, x := range l {
		if s.Starts[i] < x.First || s.Starts[i] > x.Last || s.Starts[i]+x.Length-1 > x.Last {
			return 0, false
		}
	}
	cost, charge := 0, b.Charge
	for slot := range g.Base {
		use := g.Base[slot] + s.Flow[slot]
		for i, x := range l {
			if s.Starts[i] <= slot && slot < s.Starts[i]+x.Length {
				use += x.Power
			}
		}
		if !in(s.Flow[slot], -b.Power, b.Power) || !in(use, 0, g.Fuse) {
			return 0, false
		}
		charge += s.Flow[slot]
		if !in(charge, 0, b.Capacity) {
			return 0, false
		}
		cost += use * g.Price[slot]
		if s.Flow[slot] < 0 {
			cost -= s.Flow[slot] * b.Wear
		}
	}
	return cost, true
}

// tuples calls f with all lists whose elements are from low to high, in lexicographic order.
func tuples(low, high []int, f func([]int)) {
	l := slices.Clone(low)
	for i := range low {
		if low[i] > high[i] {
			return
		}
	}
	for {
		f(l)
		i := len(l) - 1
		for i >= 0 && l[i] == high[i] {
			l[i] = low[i]
			i--
		}
		if i < 0 {
			return
		}
		l[i]++
	}
}

// refBest tries all schedules.
func refBest(g api.Grid, b api.Battery, l []api.Load) (api.Schedule, bool) {
	var first, last, down, up []int
	for _, x := range l {
		first, last = append(first, x.First), append(last, x.Last-x.Length+1)
	}
	for range g.Base {
		down, up = append(down, -b.Power), append(up, b.Power)
	}
	best, found := api.Schedule{}, false
	tuples(first, last, func(starts []int) {
		tuples(down, up, func(flow []int) {
			s := api.Schedule{Starts: starts, Flow: flow}
			cost, ok := refCost(g, b, l, s)
			if ok && (!found || cost < best.Cost) {
				best, found = api.Schedule{Starts: slices.Clone(starts), Flow: slices.Clone(flow), Cost: cost}, true
			}
		})
	})
	return best, found
}

// maker makes up grids, batteries and loads.
type maker struct{ *rand.Rand }

func (m maker) chance(n int) bool { return m.Intn(n) == 0 }

func (m maker) grid(slots int) api.Grid {
	g := api.Grid{Fuse: 4 + m.Intn(12)}
	for range slots {
		g.Base, g.Price = append(g.Base, m.Intn(5)), append(g.Price, m.Intn(5))
	}
	return g
}

func (m maker) battery(power int) api.Battery {
	b := api.Battery{Capacity: m.Intn(5), Power: m.Intn(power + 1), Wear: m.Intn(3)}
	b.Charge = m.Intn(b.Capacity + 1)
	return b
}

func (m maker) loads(g api.Grid, n int) []api.Load {
	var l []api.Load
	for range m.Intn(n + 1) {
		x := api.Load{Power: 1 + m.Intn(6), First: m.Intn(len(g.Base))}
		x.Last = x.First + m.Intn(len(g.Base)-x.First)
		x.Length = 1 + m.Intn(x.Last-x.First+1)
		l = append(l, x)
	}
	return l
}

// house returns something small enough to try all schedules.
func (m maker) house() (api.Grid, api.Battery, []api.Load) {
	g := m.grid(1 + m.Intn(4))
	return g, m.battery(2), m.loads(g, 3)
}

// schedule returns a schedule that is often permitted.
func (m maker) schedule(g api.Grid, b api.Battery, l []api.Load) api.Schedule {
	s := api.Schedule{Cost: m.Intn(9)}
	for _, x := range l {
		s.Starts = append(s.Starts, x.First+m.Intn(x.Last-x.Length-x.First+2)+m.Intn(20)/19-m.Intn(20)/19)
	}
	charge := b.Charge
	for range g.Base {
		flow := m.Intn(2*b.Power+1) - b.Power
		if !in(charge+flow, 0, b.Capacity) && !m.chance(10) {
			flow = 0
		}
		if m.chance(30) {
			flow = []int{b.Power + 1, -b.Power - 1, 1 << 62, -1 << 62}[m.Intn(4)]
		}
		charge += flow
		s.Flow = append(s.Flow, flow)
	}
	return s
}
