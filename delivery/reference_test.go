package delivery_test

import (
	"math/rand"
	"slices"

	"domicile/api"
)

func refOrder(o api.Order) bool {
	return o.Seq >= 0 && o.Seq <= 1000000 && o.Fence >= 0 && o.Fence <= 1000000000 && o.Var >= 0 && o.Var <= 1199 && o.Value >= 0 && o.Value <= 15
}

func refSender(s api.Sender) bool {
	if s.Next < 0 || s.Next > 1000001 {
		return false
	}
	for i, o := range s.Pending {
		if !refOrder(o) || o.Seq >= s.Next || o.Seq < s.Next-16 || i > 0 && s.Pending[i-1].Seq >= o.Seq {
			return false
		}
	}
	return true
}

func refWindow(w api.Seqs) bool {
	if len(w.Seen) != 16 || w.Top < -1 || w.Top > 1000000 || w.Seen[0] != (w.Top >= 0) {
		return false
	}
	for i, seen := range w.Seen {
		if seen && i > w.Top {
			return false
		}
	}
	return true
}

func refReceiver(r api.Receiver) bool {
	for _, value := range r.Values {
		if value < 0 || value > 15 {
			return false
		}
	}
	return refWindow(r.Seqs) && r.Fence >= 0 && r.Fence <= 1000000000 && len(r.Values) <= 1200 && r.Done >= 0 && r.Done <= 1000001
}

// refReceive follows the checks of the chapter one by one.
func refReceive(r api.Receiver, o api.Order) (api.Receiver, bool, api.Errno) {
	if !refReceiver(r) || !refOrder(o) || o.Var >= len(r.Values) {
		return r, false, api.ErrArg
	}
	if o.Seq <= r.Seqs.Top-16 {
		return r, false, api.ErrReplay
	}
	if o.Seq <= r.Seqs.Top && r.Seqs.Seen[r.Seqs.Top-o.Seq] {
		return r, true, api.OK
	}
	if o.Fence < r.Fence {
		return r, false, api.ErrFence
	}
	accepted := map[int]bool{o.Seq: true}
	for i, seen := range r.Seqs.Seen {
		accepted[r.Seqs.Top-i] = accepted[r.Seqs.Top-i] || seen
	}
	next := api.Receiver{Fence: o.Fence, Values: slices.Clone(r.Values), Done: r.Done + 1, Seqs: api.Seqs{Top: max(r.Seqs.Top, o.Seq)}}
	for i := range 16 {
		next.Seqs.Seen = append(next.Seqs.Seen, accepted[next.Seqs.Top-i])
	}
	next.Values[o.Var] = o.Value
	return next, true, api.OK
}

// refSend follows AF1.
func refSend(s api.Sender, fence, variable, value int) (api.Sender, api.Errno) {
	if !refSender(s) || !refOrder(api.Order{Fence: fence, Var: variable, Value: value}) {
		return api.Sender{}, api.ErrArg
	}
	if s.Next == 1000001 {
		return api.Sender{}, api.ErrLimit
	}
	if len(s.Pending) > 0 && s.Next-s.Pending[0].Seq >= 16 {
		return api.Sender{}, api.ErrFull
	}
	pending := append(slices.Clone(s.Pending), api.Order{Seq: s.Next, Fence: fence, Var: variable, Value: value})
	return api.Sender{Next: s.Next + 1, Pending: pending}, api.OK
}

// maker makes up senders, receivers and orders.
type maker struct{ *rand.Rand }

func (m maker) chance(n int) bool { return m.Intn(n) == 0 }

func (m maker) order(vars int) api.Order {
	o := api.Order{Seq: m.Intn(40), Fence: m.Intn(4), Var: m.Intn(vars), Value: m.Intn(16)}
	if m.chance(10) {
		*[]*int{&o.Seq, &o.Fence, &o.Var, &o.Value}[m.Intn(4)] = m.strange()
	}
	return o
}

func (m maker) strange() int {
	return []int{-1, 15, 16, 1199, 1200, 1000000, 1000001, 1000000000, 1000000001, 1<<63 - 1, -1 << 63}[m.Intn(11)]
}

func (m maker) sender() api.Sender {
	s := api.Sender{Next: m.Intn(30)}
	if m.chance(4) {
		s.Next = 999990 + m.Intn(13)
	}
	for seq := s.Next - 17; seq < s.Next+1; seq++ {
		if m.chance(4) && seq >= 0 && (seq > s.Next-16 && seq < s.Next || m.chance(3)) {
			o := m.order(9)
			if o.Seq < 40 {
				o.Seq = seq
			}
			s.Pending = append(s.Pending, o)
		}
	}
	if len(s.Pending) > 1 && m.chance(10) {
		s.Pending[0], s.Pending[1] = s.Pending[1], s.Pending[0]
	}
	return s
}

func (m maker) receiver() api.Receiver {
	r := api.Receiver{Seqs: api.Seqs{Top: m.Intn(30) - 1, Seen: make([]bool, 16)}, Fence: m.Intn(3), Done: m.Intn(5)}
	for i := range r.Seqs.Seen {
		r.Seqs.Seen[i] = i <= r.Seqs.Top && (i == 0 || m.chance(2))
	}
	for range m.Intn(4) {
		r.Values = append(r.Values, m.Intn(16))
	}
	if m.chance(8) {
		switch m.Intn(5) {
		case 0:
			r.Fence = m.strange()
		case 1:
			r.Done = m.strange()
		case 2:
			r.Seqs.Top = m.strange()
		case 3:
			r.Seqs.Seen[m.Intn(16)] = m.chance(2)
		case 4:
			r.Values = append(r.Values, m.strange())
		}
	}
	return r
}
