package delivery_test

import (
	"fmt"
	"math"
	"math/rand"
	"slices"
	"testing"

	"domicile/api"
	"domicile/delivery"
	"domicile/frame"
)

func same(a, b any) bool { return fmt.Sprintf("%+v", a) == fmt.Sprintf("%+v", b) }

// P32.1: the examples of the chapter.
func TestExamples(t *testing.T) {
	r := delivery.Fresh([]int{0, 0})
	if !same(r, api.Receiver{Seqs: frame.Fresh(), Values: []int{0, 0}}) {
		t.Fatalf("Fresh = %v", r)
	}
	for i, test := range []struct {
		o           api.Order
		values      []int
		fence, done int
		confirms    bool
		err         api.Errno
	}{
		{api.Order{Seq: 0, Fence: 1, Var: 1, Value: 3}, []int{0, 3}, 1, 1, true, api.OK},
		{api.Order{Seq: 0, Fence: 1, Var: 1, Value: 3}, []int{0, 3}, 1, 1, true, api.OK},
		{api.Order{Seq: 5, Fence: 2, Var: 0, Value: 1}, []int{1, 3}, 2, 2, true, api.OK},
		{api.Order{Seq: 3, Fence: 1, Var: 0, Value: 2}, []int{1, 3}, 2, 2, false, api.ErrFence},
		{api.Order{Seq: 0, Fence: 1, Var: 1, Value: 3}, []int{1, 3}, 2, 2, true, api.OK},
		{api.Order{Seq: 15, Fence: 2, Var: 1, Value: 9}, []int{1, 9}, 2, 3, true, api.OK},
		{api.Order{Seq: 0, Fence: 0, Var: 1, Value: 3}, []int{1, 9}, 2, 3, true, api.OK},
		{api.Order{Seq: 16, Fence: 2, Var: 1, Value: 4}, []int{1, 4}, 2, 4, true, api.OK},
		{api.Order{Seq: 0, Fence: 1, Var: 1, Value: 3}, []int{1, 4}, 2, 4, false, api.ErrReplay},
		{api.Order{Seq: 0, Fence: 1, Var: 2, Value: 3}, []int{1, 4}, 2, 4, false, api.ErrArg},
		{api.Order{Seq: 1, Fence: 1, Var: 1, Value: 3}, []int{1, 4}, 2, 4, false, api.ErrFence},
		{api.Order{Seq: 3, Fence: 2, Var: 1, Value: 3}, []int{1, 3}, 2, 5, true, api.OK},
	} {
		next, confirms, err := delivery.Receive(r, test.o)
		if confirms != test.confirms || err != test.err || !slices.Equal(next.Values, test.values) || next.Fence != test.fence || next.Done != test.done {
			t.Errorf("%d: Receive(%v, %v) = %v, %v, %d", i, r, test.o, next, confirms, err)
		}
		r = next
	}
}

// P32.1: senders, their limits, and the order of the errors.
func TestSend(t *testing.T) {
	pending := func(next int, seqs ...int) api.Sender {
		s := api.Sender{Next: next}
		for _, seq := range seqs {
			s.Pending = append(s.Pending, api.Order{Seq: seq})
		}
		return s
	}
	wrong := pending(5, 3)
	wrong.Pending[0].Value = 16
	for i, test := range []struct {
		s                      api.Sender
		fence, variable, value int
		want                   api.Errno
	}{
		{api.Sender{}, 0, 0, 0, api.OK}, {api.Sender{}, 1000000000, 1199, 15, api.OK}, {pending(16, 1), 0, 0, 0, api.OK}, {pending(16, 1, 2, 15), 0, 0, 0, api.OK}, {pending(1000000, 999999), 0, 0, 0, api.OK},
		{pending(-1), 0, 0, 0, api.ErrArg}, {pending(1000002), 0, 0, 0, api.ErrArg}, {pending(math.MinInt), 0, 0, 0, api.ErrArg}, {pending(5, 5), 0, 0, 0, api.ErrArg}, {pending(5, 2, 2), 0, 0, 0, api.ErrArg}, {pending(5, 3, 2), 0, 0, 0, api.ErrArg},
		{pending(17, 0), 0, 0, 0, api.ErrArg}, {pending(5, -1), 0, 0, 0, api.ErrArg}, {wrong, 0, 0, 0, api.ErrArg},
		{api.Sender{}, -1, 0, 0, api.ErrArg}, {api.Sender{}, 1000000001, 0, 0, api.ErrArg}, {api.Sender{}, 0, -1, 0, api.ErrArg}, {api.Sender{}, 0, 1200, 0, api.ErrArg}, {api.Sender{}, 0, 0, -1, api.ErrArg}, {api.Sender{}, 0, 0, 16, api.ErrArg},
		{pending(1000001), 0, 0, 0, api.ErrLimit}, {pending(1000001), 0, 0, 16, api.ErrArg}, {pending(1000001, 999985), 0, 0, 0, api.ErrLimit},
		{pending(16, 0), 0, 0, 0, api.ErrFull}, {pending(20, 4, 19), 0, 0, 0, api.ErrFull}, {pending(20, 4), -1, 0, 0, api.ErrArg},
	} {
		got, err := delivery.Send(test.s, test.fence, test.variable, test.value)
		want, wantErr := refSend(test.s, test.fence, test.variable, test.value)
		if err != test.want || err != wantErr || !same(got, want) {
			t.Errorf("%d: Send(%v) = %v, %d, want %v, %d", i, test.s, got, err, want, test.want)
		}
	}
}

// P32.1, AF2: confirming what is pending, what is not, and senders that are not well-formed.
func TestConfirm(t *testing.T) {
	s := api.Sender{Next: 9, Pending: []api.Order{{Seq: 2}, {Seq: 5, Value: 3}, {Seq: 8}}}
	for seq, want := range map[int][]api.Order{5: {{Seq: 2}, {Seq: 8}}, 2: {{Seq: 5, Value: 3}, {Seq: 8}}, 8: {{Seq: 2}, {Seq: 5, Value: 3}}, 4: s.Pending, -1: s.Pending, math.MaxInt: s.Pending} {
		if got := delivery.Confirm(s, seq); !same(got, api.Sender{Next: 9, Pending: want}) {
			t.Errorf("Confirm(%d) = %v", seq, got)
		}
	}
	s.Pending[1].Value = 16
	if got := delivery.Confirm(s, 2); !same(got, s) {
		t.Errorf("Confirm = %v", got)
	}
}

// P32.1, AF4: what a well-formed receiver has, at the limits.
func TestReceivers(t *testing.T) {
	full := delivery.Fresh(make([]int, 1200))
	for i, test := range []struct {
		change func(*api.Receiver)
		o      api.Order
		err    api.Errno
	}{
		{func(r *api.Receiver) {}, api.Order{Seq: 1000000, Fence: 1000000000, Var: 1199, Value: 15}, api.OK}, {func(r *api.Receiver) { r.Done = 1000001 }, api.Order{}, api.OK}, {func(r *api.Receiver) { r.Done = 1000002 }, api.Order{}, api.ErrArg}, {func(r *api.Receiver) { r.Done = -1 }, api.Order{}, api.ErrArg},
		{func(r *api.Receiver) { r.Fence = 1000000000 }, api.Order{}, api.ErrFence}, {func(r *api.Receiver) { r.Fence = 1000000001 }, api.Order{}, api.ErrArg}, {func(r *api.Receiver) { r.Fence = -1 }, api.Order{}, api.ErrArg}, {func(r *api.Receiver) { r.Values = make([]int, 1201) }, api.Order{}, api.ErrArg},
		{func(r *api.Receiver) { r.Values = []int{16} }, api.Order{}, api.ErrArg}, {func(r *api.Receiver) { r.Values = nil }, api.Order{}, api.ErrArg}, {func(r *api.Receiver) { r.Seqs.Seen = nil }, api.Order{}, api.ErrArg}, {func(r *api.Receiver) { *r = api.Receiver{} }, api.Order{}, api.ErrArg},
		{func(r *api.Receiver) {}, api.Order{Seq: 1000001}, api.ErrArg}, {func(r *api.Receiver) {}, api.Order{Seq: -1}, api.ErrArg}, {func(r *api.Receiver) {}, api.Order{Fence: 1000000001}, api.ErrArg}, {func(r *api.Receiver) {}, api.Order{Var: 1200}, api.ErrArg}, {func(r *api.Receiver) {}, api.Order{Value: 16}, api.ErrArg},
	} {
		r := full
		test.change(&r)
		next, confirms, err := delivery.Receive(r, test.o)
		if want, _, _ := refReceive(r, test.o); err != test.err || confirms != (err == api.OK) || !same(next, want) {
			t.Errorf("%d: Receive = %v, %d, want %d", i, confirms, err, test.err)
		}
	}
}

// P32.1, AF3: the values of a fresh receiver.
func TestFresh(t *testing.T) {
	for i, test := range []struct {
		values []int
		ok     bool
	}{
		{nil, true}, {slices.Repeat([]int{15, 0}, 600), true}, {make([]int, 1201), false}, {[]int{0, 16}, false}, {[]int{-1}, false}, {[]int{math.MinInt}, false},
	} {
		want := api.Receiver{}
		if test.ok {
			want = api.Receiver{Seqs: api.Seqs{Top: -1, Seen: make([]bool, 16)}, Values: test.values}
		}
		if got := delivery.Fresh(test.values); !same(got, want) {
			t.Errorf("%d: Fresh = %v", i, got)
		}
	}
}

// P32.1: random senders, receivers and orders, against the definitions.
func TestRandom(t *testing.T) {
	m := maker{rand.New(rand.NewSource(1))}
	sent, received, confirmed := map[api.Errno]int{}, map[api.Errno]int{}, 0
	for range 20000 {
		s, o := m.sender(), m.order(5)
		got, err := delivery.Send(s, o.Fence, o.Var, o.Value)
		want, wantErr := refSend(s, o.Fence, o.Var, o.Value)
		if err != wantErr || !same(got, want) {
			t.Fatalf("Send(%v, %v) = %v, %d, want %v, %d", s, o, got, err, want, wantErr)
		}
		sent[err]++
		seq := m.Intn(30)
		without := api.Sender{Next: s.Next}
		for _, p := range s.Pending {
			if p.Seq != seq || !refSender(s) {
				without.Pending = append(without.Pending, p)
			}
		}
		if got := delivery.Confirm(s, seq); !same(got, without) {
			t.Fatalf("Confirm(%v, %d) = %v", s, seq, got)
		}
		r := m.receiver()
		next, confirms, err := delivery.Receive(r, o)
		wantNext, wantConfirms, wantErr := refReceive(r, o)
		if err != wantErr || confirms != wantConfirms || !same(next, wantNext) {
			t.Fatalf("Receive(%v, %v) = %v, %v, %d, want %v, %v, %d", r, o, next, confirms, err, wantNext, wantConfirms, wantErr)
		}
		received[err]++
		if confirms && next.Done == r.Done {
			confirmed++
		}
	}
	for _, err := range []api.Errno{api.OK, api.ErrArg, api.ErrLimit, api.ErrFull} {
		if sent[err] < 50 {
			t.Errorf("the test covers too little: %v", sent)
		}
	}
	for _, err := range []api.Errno{api.OK, api.ErrArg, api.ErrReplay, api.ErrFence} {
		if received[err] < 300 || confirmed < 300 {
			t.Errorf("the test covers too little: %v, %d", received, confirmed)
		}
	}
}

// P3: equal arguments yield equal results, arguments stay as they are, and results share no memory.
func TestIndependence(t *testing.T) {
	m := maker{rand.New(rand.NewSource(2))}
	for range 1000 {
		s, r, o := m.sender(), m.receiver(), m.order(3)
		s.Pending = append(make([]api.Order, 0, 40), s.Pending...)
		before := fmt.Sprint(s, s.Pending[:40], r, o)
		sent, _ := delivery.Send(s, 0, 0, 0)
		less := delivery.Confirm(s, s.Next-1)
		next, _, _ := delivery.Receive(r, o)
		fresh := delivery.Fresh(r.Values)
		for _, l := range [][]api.Order{sent.Pending, less.Pending} {
			for i := range l {
				l[i].Value = 99
			}
		}
		for _, l := range [][]int{next.Values, fresh.Values} {
			for i := range l {
				l[i] = 99
			}
		}
		for i := range next.Seqs.Seen {
			next.Seqs.Seen[i] = true
		}
		if fmt.Sprint(s, s.Pending[:40], r, o) != before {
			t.Fatalf("%s is %v", before, fmt.Sprint(s, s.Pending[:40], r, o))
		}
	}
}
