package belief_test

import (
	"math/rand"
	"slices"
	"testing"

	"domicile/api"
	"domicile/belief"
)

// story is a device with orders, and what the hub knows of it.
type story struct {
	maker
	w      *world
	b      api.Belief
	device device
	seq    int
	fence  int
	late   int // confirmations of orders that were not in flight any more
}

func newStory(m maker) *story {
	value := m.Intn(4)
	return &story{maker: m, w: newWorld(value), b: belief.Known(value), device: device{value: value, closed: -1}, seq: -1}
}

// step does something that can happen in the world.
func (s *story) step(t *testing.T) {
	switch s.Intn(5) {
	case 0, 1:
		s.send(t)
	case 2:
		s.execute()
	case 3:
		s.confirm(t)
	case 4:
		if s.chance(2) {
			s.report(t)
		}
	}
	if !refValid(s.b) {
		t.Fatalf("%v is not well-formed", s.b)
	}
}

func (s *story) send(t *testing.T) {
	if len(s.w.orders) > 6 {
		return
	}
	s.seq += 1 + s.Intn(9)
	s.fence += s.Intn(6) / 5
	o := api.Order{Seq: s.seq, Fence: s.fence, Value: s.Intn(8)}
	next, err := belief.Sent(s.b, o)
	if err == api.ErrArg {
		// A report can have closed more than was sent.
		return
	}
	if err != api.OK {
		t.Fatalf("Sent(%v, %v) = %d", s.b, o, err)
	}
	for _, value := range append(slices.Clone(s.b.Values), o.Value) {
		if !belief.Can(next, value) {
			t.Fatalf("%v is possible in %v, but not after %v", value, s.b, o)
		}
	}
	s.b = next
	s.w.send(o)
}

func (s *story) execute() {
	if n := len(s.w.orders); n > 0 {
		if i := s.Intn(n); s.w.can(s.device, i) {
			s.device = s.w.after(s.device, i)
		}
	}
}

func (s *story) confirm(t *testing.T) {
	var executed []int
	for i := range s.w.orders {
		if s.device.executed>>i&1 == 1 {
			executed = append(executed, i)
		}
	}
	if len(executed) == 0 {
		return
	}
	i := executed[s.Intn(len(executed))]
	seq := s.w.orders[i].Seq
	flying := slices.ContainsFunc(s.b.Flying, func(r api.Order) bool { return r.Var >= 0 && r.Seq == seq })
	next, err := belief.Confirmed(s.b, seq)
	if flying != (err == api.OK) || !flying && err != api.ErrNone {
		t.Fatalf("Confirmed(%v, %d) = %d", s.b, seq, err)
	}
	s.w.confirm(i)
	if !flying {
		s.late++
		return
	}
	for _, value := range next.Values {
		if !belief.Can(s.b, value) {
			t.Fatalf("Confirmed(%v, %d) = %v", s.b, seq, next)
		}
	}
	s.b = next
}

func (s *story) report(t *testing.T) {
	top := s.w.top(s.device)
	next, err := belief.Reported(s.b, s.device.value, top)
	if err != api.OK {
		t.Fatalf("Reported(%v, %d, %d) = %d", s.b, s.device.value, top, err)
	}
	if value, sure := belief.Surely(next); top == s.seq && (!sure || value != s.device.value) {
		t.Fatalf("Reported(%v, %d, %d) = %v", s.b, s.device.value, top, next)
	}
	s.b = next
	s.w.report(s.device.value, top)
	s.device.closed = max(s.device.closed, top)
}

// P33.2 to P33.5, P33.7: Values are exactly those that the device can have.
func TestStories(t *testing.T) {
	m := maker{rand.New(rand.NewSource(333))}
	several, late := 0, 0
	for range 1500 {
		s := newStory(m)
		for range 20 {
			s.step(t)
			if !belief.Can(s.b, s.device.value) {
				t.Fatalf("the device has %v, but %v", s.device, s.b)
			}
			if got := s.w.values(); !slices.Equal(got, s.b.Values) {
				t.Fatalf("%v is possible after %v, but %v", got, s.w.orders, s.b)
			}
			if len(s.b.Values) > 1 {
				several++
			}
		}
		late += s.late
	}
	if several < 5000 || late < 500 {
		t.Errorf("the test covers too little: %d, %d", several, late)
	}
}

// P33.6: with each confirmation before the next order, the value is certain.
func TestCertainty(t *testing.T) {
	m := maker{rand.New(rand.NewSource(336))}
	for range 300 {
		b, seq := belief.Known(m.Intn(16)), 0
		for range 12 {
			seq += 1 + m.Intn(20)
			o := order(seq, m.Intn(16))
			b = after(t)(belief.Confirmed(after(t)(belief.Sent(b, o)), seq))
			if value, sure := belief.Surely(b); !sure || value != o.Value {
				t.Fatalf("%v after %v", b, o)
			}
		}
	}
}
