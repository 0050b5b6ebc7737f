package belief_test

import (
	"math/rand"
	"slices"
	"sort"

	"domicile/api"
)

// refValid follows the definition of well-formed beliefs.
func refValid(b api.Belief) bool {
	flying, settled := 0, 0
	values := map[int]bool{}
	last := api.Order{Seq: -1}
	for _, r := range b.Flying {
		if r.Seq < -1 || r.Seq > 1000000000 || r.Fence < 0 || r.Fence > 1000000000 || r.Value < 0 || r.Value > 15 {
			return false
		}
		values[r.Value] = true
		switch {
		case r.Var == -1:
			settled++
		case r.Var < -1:
			return false
		default:
			if r.Seq < 0 || flying > 0 && (r.Seq <= last.Seq || r.Fence < last.Fence) {
				return false
			}
			flying++
			last = r
		}
	}
	var l []int
	for value := range values {
		l = append(l, value)
	}
	sort.Ints(l)
	return flying <= 8 && len(b.Flying) <= 20 && settled > 0 && slices.Equal(l, b.Values)
}

// refBelief returns the belief with some records.
func refBelief(l []api.Order) api.Belief {
	b := api.Belief{Flying: l}
	for value := range 16 {
		for _, r := range l {
			if r.Value == value {
				b.Values = append(b.Values, value)
				break
			}
		}
	}
	return b
}

func refSent(b api.Belief, o api.Order) (api.Belief, api.Errno) {
	const most = 1000000000
	if !refValid(b) || o.Seq < 0 || o.Seq > most || o.Fence < 0 || o.Fence > most || o.Var < 0 || o.Var > most || o.Value < 0 || o.Value > 15 {
		return api.Belief{}, api.ErrArg
	}
	flying, less := 0, false
	for _, r := range b.Flying {
		if o.Seq <= r.Seq {
			return api.Belief{}, api.ErrArg
		}
		less = less || o.Fence < r.Fence
		if r.Var >= 0 {
			flying++
		}
	}
	if less {
		return api.Belief{}, api.ErrFence
	}
	if flying >= 8 || len(b.Flying) >= 20 {
		return api.Belief{}, api.ErrLimit
	}
	return refBelief(append(slices.Clone(b.Flying), o)), api.OK
}

func refConfirmed(b api.Belief, seq int) (api.Belief, api.Errno) {
	if !refValid(b) {
		return api.Belief{}, api.ErrArg
	}
	for i, o := range b.Flying {
		if o.Var < 0 || o.Seq != seq {
			continue
		}
		var l []api.Order
		for k, r := range b.Flying {
			survives := r.Seq > o.Seq-16 && r.Fence >= o.Fence
			if k != i && survives && (r.Var >= 0 || k > i) {
				l = append(l, r)
			}
		}
		return refBelief(append(l, api.Order{Seq: o.Seq, Fence: o.Fence, Var: -1, Value: o.Value})), api.OK
	}
	return api.Belief{}, api.ErrNone
}

func refReported(b api.Belief, value, top int) (api.Belief, api.Errno) {
	if !refValid(b) || top < -1 || top > 1000000000 {
		return api.Belief{}, api.ErrArg
	}
	r := api.Order{Seq: top, Var: -1, Value: value}
	var later []api.Order
	for _, x := range b.Flying {
		if x.Seq > top && x.Var < 0 {
			return api.Belief{}, api.ErrState
		}
		if x.Seq > top {
			later = append(later, x)
		} else {
			r.Fence = max(r.Fence, x.Fence)
		}
	}
	if !slices.Contains(b.Values, value) {
		return api.Belief{}, api.ErrState
	}
	return refBelief(append([]api.Order{r}, later...)), api.OK
}

// device is a state in which the device can be: its value, which orders it has executed, and up to which number it closed its window.
type device struct{ value, executed, closed int }

// world has all states in which the device can be, and the orders that were sent.
type world struct {
	states map[device]bool
	orders []api.Order
}

func newWorld(value int) *world {
	return &world{states: map[device]bool{{value: value, closed: -1}: true}}
}

// can says whether the device can execute an order in a state.
func (w *world) can(d device, i int) bool {
	o := w.orders[i]
	if d.executed>>i&1 == 1 || o.Seq <= d.closed {
		return false
	}
	for k, other := range w.orders {
		if d.executed>>k&1 == 1 && (other.Seq >= o.Seq+16 || other.Fence > o.Fence) {
			return false
		}
	}
	return true
}

// after returns the state after the order with an index.
func (w *world) after(d device, i int) device {
	d.value = w.orders[i].Value
	d.executed |= 1 << i
	return d
}

// settle adds all states that the device can reach by executing orders.
func (w *world) settle() {
	var queue []device
	for d := range w.states {
		queue = append(queue, d)
	}
	for len(queue) > 0 {
		d := queue[0]
		queue = queue[1:]
		for i := range w.orders {
			if !w.can(d, i) {
				continue
			}
			if next := w.after(d, i); !w.states[next] {
				w.states[next] = true
				queue = append(queue, next)
			}
		}
	}
}

func (w *world) send(o api.Order) {
	w.orders = append(w.orders, o)
	w.settle()
}

// keep keeps the states that fit, changed by f.
func (w *world) keep(f func(device) (device, bool)) {
	kept := map[device]bool{}
	for d := range w.states {
		if next, ok := f(d); ok {
			kept[next] = true
		}
	}
	w.states = kept
	w.settle()
}

// top is the greatest number that was executed.
func (w *world) top(d device) int {
	top := -1
	for i, o := range w.orders {
		if d.executed>>i&1 == 1 {
			top = max(top, o.Seq)
		}
	}
	return top
}

func (w *world) confirm(i int) {
	w.keep(func(d device) (device, bool) { return d, d.executed>>i&1 == 1 })
}

func (w *world) report(value, top int) {
	w.keep(func(d device) (device, bool) {
		ok := d.value == value && w.top(d) == top
		d.closed = max(d.closed, top)
		return d, ok
	})
}

func (w *world) values() []int {
	known := map[int]bool{}
	for d := range w.states {
		known[d.value] = true
	}
	var l []int
	for value := range known {
		l = append(l, value)
	}
	sort.Ints(l)
	return l
}

// maker makes up beliefs and orders.
type maker struct{ *rand.Rand }

func (m maker) chance(n int) bool { return m.Intn(n) == 0 }

func (m maker) strange() int {
	return []int{-2, -1, 0, 15, 16, 1000000000, 1000000001, 1<<63 - 1, -1 << 63}[m.Intn(9)]
}

// belief returns a belief that is mostly well-formed.
func (m maker) belief() api.Belief {
	var l []api.Order
	seq, fence := m.Intn(4), m.Intn(3)
	for range 1 + m.Intn(8) {
		if m.chance(3) {
			l = append(l, api.Order{Seq: m.Intn(30) - 1, Fence: m.Intn(4), Var: -1, Value: m.Intn(16)})
			continue
		}
		l = append(l, api.Order{Seq: seq, Fence: fence, Var: m.Intn(3), Value: m.Intn(16)})
		seq += 1 + m.Intn(9)
		fence += m.Intn(8) / 7
	}
	if m.chance(10) {
		l = append(l, l...)
	}
	if m.chance(6) {
		r := &l[m.Intn(len(l))]
		*[]*int{&r.Seq, &r.Fence, &r.Var, &r.Value}[m.Intn(4)] = m.strange()
	}
	b := refBelief(l)
	if m.chance(20) {
		b.Values = append(b.Values, 15)
	}
	return b
}

func (m maker) order() api.Order {
	o := api.Order{Seq: 20 + m.Intn(40), Fence: 2 + m.Intn(4), Var: m.Intn(3), Value: m.Intn(16)}
	if m.chance(6) {
		*[]*int{&o.Seq, &o.Fence, &o.Var, &o.Value}[m.Intn(4)] = m.strange()
	}
	return o
}
