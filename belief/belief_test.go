package belief_test

import (
	"fmt"
	"math"
	"math/rand"
	"slices"
	"testing"

	"domicile/api"
	"domicile/belief"
)

func same(a, b any) bool { return fmt.Sprintf("%+v", a) == fmt.Sprintf("%+v", b) }

// after returns what follows from a belief and an error, which must be OK.
func after(t *testing.T) func(api.Belief, api.Errno) api.Belief {
	return func(b api.Belief, err api.Errno) api.Belief {
		t.Helper()
		if err != api.OK {
			t.Fatalf("the error %d", err)
		}
		return b
	}
}

func order(seq, value int) api.Order { return api.Order{Seq: seq, Var: 3, Value: value} }

func settled(seq, value int) api.Order { return api.Order{Seq: seq, Var: -1, Value: value} }

// P33.1: the examples of the chapter.
func TestExamples(t *testing.T) {
	ok := after(t)
	want := func(b api.Belief, values []int, flying ...api.Order) {
		t.Helper()
		if !same(b, api.Belief{Values: values, Flying: flying}) {
			t.Errorf("%v, want %v, %v", b, values, flying)
		}
	}
	b := ok(belief.Sent(belief.Known(0), order(1, 2)))
	want(b, []int{0, 2}, settled(-1, 0), order(1, 2))
	b = ok(belief.Confirmed(ok(belief.Sent(b, order(2, 3))), 2))
	want(b, []int{2, 3}, order(1, 2), settled(2, 3))
	want(ok(belief.Confirmed(b, 1)), []int{2, 3}, settled(2, 3), settled(1, 2))
	b = ok(belief.Confirmed(ok(belief.Sent(belief.Known(0), order(1, 2))), 1))
	want(ok(belief.Confirmed(ok(belief.Sent(b, order(2, 3))), 2)), []int{3}, settled(2, 3))
	b = ok(belief.Sent(ok(belief.Sent(belief.Known(0), order(1, 2))), order(17, 3)))
	want(ok(belief.Confirmed(b, 17)), []int{3}, settled(17, 3))
	b = ok(belief.Sent(ok(belief.Sent(belief.Known(0), order(2, 2))), order(17, 3)))
	want(ok(belief.Confirmed(b, 17)), []int{2, 3}, order(2, 2), settled(17, 3))
	// A greater fence that was executed stops the orders before.
	fenced := order(3, 3)
	fenced.Fence = 1
	b = ok(belief.Sent(ok(belief.Sent(belief.Known(0), order(2, 2))), fenced))
	want(ok(belief.Confirmed(b, 3)), []int{3}, api.Order{Seq: 3, Fence: 1, Var: -1, Value: 3})
	want(ok(belief.Reported(b, 2, 2)), []int{2, 3}, settled(2, 2), fenced)
	want(ok(belief.Reported(b, 2, 3)), []int{2}, api.Order{Seq: 3, Fence: 1, Var: -1, Value: 2})
	want(ok(belief.Reported(b, 0, -1)), []int{0, 2, 3}, settled(-1, 0), order(2, 2), fenced)
	want(ok(belief.Reported(b, 0, 1000000000)), []int{0}, api.Order{Seq: 1000000000, Fence: 1, Var: -1, Value: 0})
	for value, possible := range map[int]bool{0: true, 2: true, 3: true, 1: false, -1: false, 16: false} {
		if belief.Can(b, value) != possible {
			t.Errorf("Can(%d) = %v", value, !possible)
		}
	}
	if value, sure := belief.Surely(b); value != 0 || sure {
		t.Errorf("Surely = %d, %v", value, sure)
	}
	if value, sure := belief.Surely(belief.Known(15)); value != 15 || !sure {
		t.Errorf("Surely = %d, %v", value, sure)
	}
	if value, sure := belief.Surely(api.Belief{}); value != 0 || sure || belief.Can(api.Belief{}, 0) {
		t.Errorf("Surely = %d, %v", value, sure)
	}
	for _, value := range []int{-1, 16, math.MaxInt, math.MinInt} {
		if b := belief.Known(value); !same(b, api.Belief{}) {
			t.Errorf("Known(%d) = %v", value, b)
		}
	}
}

// wantError checks an error.
func wantError(t *testing.T, want api.Errno) func(api.Belief, api.Errno) {
	return func(b api.Belief, err api.Errno) {
		t.Helper()
		if err != want || !same(b, api.Belief{}) {
			t.Errorf("%v, %d, want %d", b, err, want)
		}
	}
}

// P33.1: which beliefs are well-formed.
func TestWellFormed(t *testing.T) {
	nine := []api.Order{settled(-1, 0)}
	for i := range 9 {
		nine = append(nine, order(i, 0))
	}
	many := slices.Repeat([]api.Order{settled(-1, 0)}, 21)
	for i, test := range []struct {
		b  api.Belief
		ok bool
	}{
		{refBelief([]api.Order{settled(-1, 0)}), true}, {refBelief([]api.Order{{Seq: 1000000000, Fence: 1000000000, Var: -1, Value: 15}, order(0, 1)}), true}, {refBelief(nine[:9]), true}, {refBelief(many[:20]), true},
		{refBelief([]api.Order{settled(5, 0), order(5, 1), settled(3, 1)}), true}, {refBelief([]api.Order{{Seq: 3, Var: math.MaxInt}, settled(2, 1)}), true},
		{api.Belief{}, false}, {refBelief(nine), false}, {refBelief(many), false}, {refBelief([]api.Order{order(1, 1)}), false}, {refBelief([]api.Order{settled(-2, 0)}), false}, {refBelief([]api.Order{settled(1000000001, 0)}), false},
		{refBelief([]api.Order{settled(0, 0), order(-1, 0)}), false}, {refBelief([]api.Order{settled(0, 0), order(2, 0), order(2, 0)}), false}, {refBelief([]api.Order{order(2, 0), settled(0, 0), order(1, 0)}), false},
		{refBelief([]api.Order{settled(0, 0), {Seq: 1, Fence: 2}, {Seq: 2, Fence: 1}}), false}, {refBelief([]api.Order{settled(0, 0), {Seq: 1, Var: -2}}), false}, {refBelief([]api.Order{{Var: -1, Fence: -1}}), false}, {refBelief([]api.Order{{Var: -1, Fence: 1000000001}}), false},
		{api.Belief{Values: []int{16}, Flying: []api.Order{settled(0, 16)}}, false}, {api.Belief{Values: []int{-1}, Flying: []api.Order{settled(0, -1)}}, false},
		{api.Belief{Values: []int{0, 1}, Flying: []api.Order{settled(0, 0)}}, false}, {api.Belief{Values: []int{1, 0}, Flying: []api.Order{settled(0, 0), settled(0, 1)}}, false}, {api.Belief{Values: []int{0, 0}, Flying: []api.Order{settled(0, 0), settled(0, 0)}}, false}, {api.Belief{Flying: []api.Order{settled(0, 0)}}, false},
	} {
		_, err := belief.Reported(test.b, 0, 1000000000)
		if (err == api.ErrArg) == test.ok || refValid(test.b) != test.ok {
			t.Errorf("%d: Reported(%v) = %d", i, test.b, err)
		}
		if !test.ok {
			wantError(t, api.ErrArg)(belief.Sent(test.b, order(2000, 3)))
			wantError(t, api.ErrArg)(belief.Confirmed(test.b, 1))
			wantError(t, api.ErrArg)(belief.Reported(test.b, 0, 1000000000))
		}
	}
}

// P33.1: the errors of each function, and their order.
func TestErrors(t *testing.T) {
	b := refBelief([]api.Order{settled(4, 1), {Seq: 6, Fence: 2, Var: 5, Value: 7}})
	for _, o := range []api.Order{
		{Seq: -1, Fence: 2}, {Seq: 6, Fence: 2}, {Seq: 4, Fence: 2}, {Seq: 1000000001, Fence: 2}, {Seq: 9, Fence: -1}, {Seq: 9, Fence: 1000000001}, {Seq: 9, Fence: 2, Var: -1}, {Seq: 9, Fence: 2, Var: 1000000001},
		{Seq: 9, Fence: 2, Value: 16}, {Seq: 9, Fence: 2, Value: -1}, {Seq: 6, Fence: 1}, {Seq: 9, Fence: 1, Value: 16},
	} {
		wantError(t, api.ErrArg)(belief.Sent(b, o))
	}
	wantError(t, api.ErrFence)(belief.Sent(b, api.Order{Seq: 9, Fence: 1}))
	after(t)(belief.Sent(b, api.Order{Seq: 7, Fence: 2}))
	after(t)(belief.Sent(b, api.Order{Seq: 1000000000, Fence: 1000000000, Var: 1000000000, Value: 15}))
	full := refBelief(slices.Repeat([]api.Order{{Seq: 3, Fence: 3, Var: -1}}, 20))
	wantError(t, api.ErrLimit)(belief.Sent(full, api.Order{Seq: 9, Fence: 3}))
	wantError(t, api.ErrFence)(belief.Sent(full, api.Order{Seq: 9, Fence: 2}))
	wantError(t, api.ErrArg)(belief.Sent(full, api.Order{Seq: 3, Fence: 3}))
	eight := belief.Known(1)
	for i := range 8 {
		eight = after(t)(belief.Sent(eight, order(i, i)))
	}
	wantError(t, api.ErrLimit)(belief.Sent(eight, order(9, 0)))
	for _, seq := range []int{4, 5, 7, -1, math.MaxInt, math.MinInt} {
		wantError(t, api.ErrNone)(belief.Confirmed(b, seq))
	}
	for _, top := range []int{-2, 1000000001, math.MaxInt, math.MinInt} {
		wantError(t, api.ErrArg)(belief.Reported(b, 1, top))
		wantError(t, api.ErrArg)(belief.Reported(b, 9, top))
	}
	for _, top := range []int{-1, 0, 3} {
		wantError(t, api.ErrState)(belief.Reported(b, 1, top))
	}
	for _, value := range []int{0, 8, -1, 16, math.MaxInt} {
		wantError(t, api.ErrState)(belief.Reported(b, value, 6))
	}
	after(t)(belief.Reported(b, 7, 4))
}

// P33.1, P33.2: random beliefs, against the definitions.
func TestRandom(t *testing.T) {
	m := maker{rand.New(rand.NewSource(1))}
	count := map[string]int{}
	for range 20000 {
		b, o := m.belief(), m.order()
		if refValid(b) {
			count["well-formed"]++
		}
		seq, value, top := m.Intn(30), m.Intn(16), m.Intn(34)-2
		if n := len(b.Flying); n > 0 {
			r := b.Flying[m.Intn(n)]
			seq, value = r.Seq, r.Value
		}
		check := func(name string, got api.Belief, err api.Errno) func(api.Belief, api.Errno) {
			count[fmt.Sprint(name, err)]++
			return func(want api.Belief, wantErr api.Errno) {
				if err != wantErr || !same(got, want) {
					t.Fatalf("%s of %v with %v, %d, %d, %d = %v, %d, want %v, %d", name, b, o, seq, value, top, got, err, want, wantErr)
				}
				if err == api.OK && !refValid(got) {
					t.Fatalf("%s of %v with %v, %d, %d, %d = %v", name, b, o, seq, value, top, got)
				}
			}
		}
		got, err := belief.Sent(b, o)
		check("Sent", got, err)(refSent(b, o))
		got, err = belief.Confirmed(b, seq)
		check("Confirmed", got, err)(refConfirmed(b, seq))
		got, err = belief.Reported(b, value, top)
		check("Reported", got, err)(refReported(b, value, top))
	}
	for _, name := range []string{"well-formed", "Sent0", "Sent1", "Sent23", "Confirmed0", "Confirmed1", "Confirmed27", "Reported0", "Reported1", "Reported28"} {
		if count[name] < 300 {
			t.Errorf("the test covers too little: %s in %v", name, count)
		}
	}
}

// P3: equal arguments yield equal results, arguments stay as they are, and results share no memory.
func TestIndependence(t *testing.T) {
	m := maker{rand.New(rand.NewSource(2))}
	for range 1000 {
		b, o := m.belief(), m.order()
		b.Flying = append(make([]api.Order, 0, 40), b.Flying...)
		before := fmt.Sprint(b, b.Flying[:40])
		for _, f := range []func() (api.Belief, api.Errno){
			func() (api.Belief, api.Errno) { return belief.Sent(b, o) },
			func() (api.Belief, api.Errno) { return belief.Confirmed(b, b.Flying[0].Seq) },
			func() (api.Belief, api.Errno) { return belief.Reported(b, b.Flying[0].Value, 30) },
		} {
			first, err := f()
			text := fmt.Sprint(first, err)
			for i := range first.Flying {
				first.Flying[i].Value = 99
			}
			for i := range first.Values {
				first.Values[i] = 99
			}
			second, err := f()
			if fmt.Sprint(second, err) != text || fmt.Sprint(b, b.Flying[:40]) != before {
				t.Fatalf("%s: %s and %v", before, text, second)
			}
		}
	}
}
