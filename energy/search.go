package energy

import (
	"iter"

	"domicile/api"
)

// impossible is more than any schedule costs.
const impossible = api.Infinite

// uses has what is used in each slot without the battery.
type uses [api.MaxSlots]int

// starts yields all choices of starts in lexicographic order; what is yielded changes afterwards.
func starts(l []api.Load) iter.Seq[[]int] {
	return func(yield func([]int) bool) {
		chosen := make([]int, len(l))
		var choose func(i int) bool
		choose = func(i int) bool {
			if i == len(l) {
				return yield(chosen)
			}
			for start := l[i].First; start <= lastStart(l[i]); start++ {
				chosen[i] = start
				if !choose(i + 1) {
					return false
				}
			}
			return true
		}
		choose(0)
	}
}

func lastStart(load api.Load) int { return load.Last - load.Length + 1 }

func useOf(g api.Grid, l []api.Load, starts []int) uses {
	var use uses
	copy(use[:], g.Base)
	for i, load := range l {
		for slot := starts[i]; slot < starts[i]+load.Length; slot++ {
			use[slot] += load.Power
		}
	}
	return use
}

// flows returns the least and the greatest flow that a slot permits; if the least one is greater, there is none.
func flows(g api.Grid, b api.Battery, use, charge int) (least, most int) {
	return max(-b.Power, -charge, -use), min(b.Power, b.Capacity-charge, g.Fuse-use)
}

func slotCost(g api.Grid, b api.Battery, slot, use, flow int) int {
	return (use+flow)*g.Price[slot] + b.Wear*max(0, -flow)
}

// table has the least costs that are left from a slot on with a charge, found from the last slot backwards.
type table struct {
	grid    api.Grid
	battery api.Battery
	use     uses
	left    [api.MaxSlots + 1][maxCapacity + 1]int
}

func newTable(g api.Grid, b api.Battery, use uses) *table {
	t := &table{grid: g, battery: b, use: use}
	for slot := len(g.Base) - 1; slot >= 0; slot-- {
		for charge := range b.Capacity + 1 {
			_, t.left[slot][charge] = t.choose(slot, charge)
		}
	}
	return t
}

// choose returns the least flow with the least costs from a slot on, and these costs.
func (t *table) choose(slot, charge int) (flow, cost int) {
	least, most := flows(t.grid, t.battery, t.use[slot], charge)
	cost = impossible
	for f := least; f <= most; f++ {
		left := t.left[slot+1][charge+f]
		if left == impossible {
			continue
		}
		if c := left + slotCost(t.grid, t.battery, slot, t.use[slot], f); c < cost {
			flow, cost = f, c
		}
	}
	return flow, cost
}

// flow returns the least flow with the least costs.
func (t *table) flow() []int {
	var flow []int
	charge := t.battery.Charge
	for slot := range t.grid.Base {
		f, _ := t.choose(slot, charge)
		flow = append(flow, f)
		charge += f
	}
	return flow
}
