package delivery_test

import (
	"math/rand"
	"slices"
	"testing"

	"domicile/api"
	"domicile/delivery"
)

// radio is a sender, a receiver, and what is on the way between them.
type radio struct {
	maker
	s       api.Sender
	r       api.Receiver
	sent    []api.Order
	orders  []api.Order
	answers []int
	count   map[int]int // executions by numbers
	fence   int
	last    map[int]int // the value that was executed last, by variables
}

func newRadio(seed int64) *radio {
	return &radio{maker: maker{rand.New(rand.NewSource(seed))}, r: delivery.Fresh([]int{4, 5, 6}), count: map[int]int{}, last: map[int]int{0: 4, 1: 5, 2: 6}}
}

// step does something that can happen; the radio loses and repeats what it likes, and remembers all.
func (c *radio) step(t *testing.T) {
	switch c.Intn(6) {
	case 0:
		if c.chance(20) {
			c.fence++
		}
		next, err := delivery.Send(c.s, max(0, c.fence-c.Intn(20)/19), c.Intn(3), c.Intn(16))
		if err == api.OK {
			c.s = next
			c.sent = append(c.sent, next.Pending[len(next.Pending)-1])
		} else if err != api.ErrFull {
			t.Fatalf("Send = %d", err)
		}
	case 1, 2:
		if n := len(c.s.Pending); n > 0 {
			c.orders = append(c.orders, c.s.Pending[c.Intn(n)])
		}
	case 3, 4:
		if n := len(c.orders); n > 0 {
			c.arrive(t, c.orders[max(c.Intn(n), c.Intn(n))])
		}
	case 5:
		if n := len(c.answers); n > 0 {
			c.s = delivery.Confirm(c.s, c.answers[c.Intn(n)])
		}
	}
}

func (c *radio) arrive(t *testing.T, o api.Order) {
	next, confirms, err := delivery.Receive(c.r, o)
	if next.Fence < c.r.Fence || err != api.OK && (confirms || !same(next, c.r)) {
		t.Fatalf("Receive(%v, %v) = %v, %v, %d", c.r, o, next, confirms, err)
	}
	if next.Done > c.r.Done {
		c.count[o.Seq]++
		c.last[o.Var] = o.Value
		if o.Fence < c.r.Fence {
			t.Fatalf("%v was executed after the fence %d", o, c.r.Fence)
		}
	} else if err == api.OK && c.count[o.Seq] == 0 {
		t.Fatalf("%v is confirmed without being executed", o)
	}
	if c.count[o.Seq] > 0 && err == api.ErrFence {
		t.Fatalf("%v was executed before, but is refused for its fence", o)
	}
	c.r = next
	if confirms {
		c.answers = append(c.answers, o.Seq)
	}
}

// P32.2, P32.3, P32.5, P32.6: each order is executed at most once, pending ones are never too old, and the last ones count.
func TestRadio(t *testing.T) {
	executed, fenced := 0, 0
	for seed := range int64(60) {
		c := newRadio(seed)
		for range 1000 {
			c.step(t)
			done := 0
			for seq, n := range c.count {
				if done += n; n > 1 {
					t.Fatalf("the order %d was executed %d times", seq, n)
				}
			}
			if c.r.Done != done {
				t.Fatalf("Done is %d after %d executions", c.r.Done, done)
			}
			for i, value := range c.r.Values {
				if c.last[i] != value {
					t.Fatalf("%v, but the last orders were %v", c.r, c.last)
				}
			}
			for _, o := range c.s.Pending {
				_, _, err := delivery.Receive(c.r, o)
				if err == api.ErrReplay || err == api.ErrArg {
					t.Fatalf("%v is pending, but %d for %v", o, err, c.r)
				}
				if err == api.ErrFence {
					fenced++
				}
			}
		}
		executed += c.r.Done
	}
	if executed < 1000 || fenced < 1000 {
		t.Errorf("the test covers too little: %d, %d", executed, fenced)
	}
}

// P32.4: if all arrives in the end, nothing is pending, and all orders have been executed once.
func TestInTheEnd(t *testing.T) {
	for seed := range int64(100) {
		c := newRadio(1000 + seed)
		c.fence = -1 << 40
		for range 300 {
			c.step(t)
		}
		for _, i := range c.Perm(len(c.s.Pending)) {
			c.arrive(t, c.s.Pending[i])
		}
		for _, seq := range c.answers {
			c.s = delivery.Confirm(c.s, seq)
		}
		if len(c.s.Pending) > 0 || c.r.Done != len(c.sent) {
			t.Fatalf("%v and %v after %v", c.s, c.r, c.sent)
		}
		for _, o := range c.sent {
			if c.count[o.Seq] != 1 {
				t.Fatalf("%v was executed %d times", o, c.count[o.Seq])
			}
		}
	}
}

// P32.7: with an error nothing changes; confirming twice, or what is not pending, changes nothing.
func TestErrors(t *testing.T) {
	m := maker{rand.New(rand.NewSource(327))}
	failed, confirmed := 0, 0
	for range 5000 {
		r, o := m.receiver(), m.order(3)
		next, confirms, err := delivery.Receive(r, o)
		if err != api.OK {
			failed++
			if confirms || !same(next, r) {
				t.Fatalf("Receive(%v, %v) = %v, %v, %d", r, o, next, confirms, err)
			}
		}
		s, seq := m.sender(), m.Intn(30)
		once := delivery.Confirm(s, seq)
		if !same(delivery.Confirm(once, seq), once) && refSender(s) {
			t.Fatalf("Confirm(%v, %d) twice", s, seq)
		}
		if !slices.ContainsFunc(s.Pending, func(o api.Order) bool { return o.Seq == seq }) {
			if !same(once, s) {
				t.Fatalf("Confirm(%v, %d) = %v", s, seq, once)
			}
		} else if refSender(s) {
			if confirmed++; len(once.Pending) != len(s.Pending)-1 {
				t.Fatalf("Confirm(%v, %d) = %v", s, seq, once)
			}
		}
	}
	if failed < 1000 || confirmed < 100 {
		t.Errorf("the test covers too little: %d, %d", failed, confirmed)
	}
}
