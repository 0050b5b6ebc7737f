package sandbox_test

import (
	"fmt"
	"math"
	"math/rand"
	"slices"
	"testing"

	"domicile/api"
	"domicile/sandbox"
)

func same(a, b any) bool { return fmt.Sprintf("%+v", a) == fmt.Sprintf("%+v", b) }

func op(code int, nums ...int) api.Op {
	o := api.Op{Code: code}
	if len(nums) > 0 {
		o.A = nums[0]
	}
	if len(nums) > 1 {
		o.B = nums[1]
	}
	return o
}

func got(msg int) api.Event  { return api.Event{Msg: msg} }
func sent(msg int) api.Event { return api.Event{Send: true, Msg: msg} }

func answering() api.Driver {
	return api.Driver{Ops: []api.Op{op(api.DrvReceive), op(api.DrvCase, 1, 4), op(api.DrvSend, 9), op(api.DrvHalt), op(api.DrvSend, 2), op(api.DrvJump, 0)}}
}

// P25.1: the examples of the chapter.
func TestExamples(t *testing.T) {
	for i, test := range []struct {
		in   []int
		fuel int
		want api.Outcome
	}{
		{[]int{1, 1}, 100, api.Outcome{Events: []api.Event{got(1), sent(2), got(1), sent(2)}, Err: api.ErrNone, Fuel: 94}},
		{[]int{1, 5}, 100, api.Outcome{Events: []api.Event{got(1), sent(2), got(5), sent(9)}, Fuel: 94}},
		{[]int{1}, 2, api.Outcome{Events: []api.Event{got(1), sent(2)}, Err: api.ErrFuel}},
		{nil, 0, api.Outcome{Err: api.ErrFuel}},
		{nil, 1, api.Outcome{Err: api.ErrNone, Fuel: 1}},
	} {
		if out := sandbox.Run(answering(), nil, test.in, test.fuel); !same(out, test.want) {
			t.Errorf("%d: Run = %+v, want %+v", i, out, test.want)
		}
	}
	s := api.Session{States: [][]api.Choice{{{Msg: 1, Next: 1}}, {{Send: true, Msg: 2}}}}
	out, keeps := sandbox.Guard(answering(), s, nil, []int{5}, 100)
	if want := (api.Outcome{Err: api.ErrProtocol, Fuel: 100}); !same(out, want) || keeps {
		t.Errorf("Guard = %+v, %v", out, keeps)
	}
	out, keeps = sandbox.Guard(answering(), s, nil, []int{1, 1}, 100)
	if want := (api.Outcome{Events: []api.Event{got(1), sent(2), got(1), sent(2)}, Err: api.ErrNone, Fuel: 94}); !same(out, want) || !keeps {
		t.Errorf("Guard = %+v, %v", out, keeps)
	}
	// Sending is guarded as well; the instructions before have their effect.
	s.States[1][0].Msg = 3
	out, keeps = sandbox.Guard(answering(), s, nil, []int{1, 1}, 100)
	if want := (api.Outcome{Events: []api.Event{got(1)}, Err: api.ErrProtocol, Fuel: 99}); !same(out, want) || keeps {
		t.Errorf("Guard = %+v, %v", out, keeps)
	}
}

// P25.1: the end, halts, and what comes first.
func TestEnds(t *testing.T) {
	halt := api.Driver{Ops: []api.Op{op(api.DrvHalt)}}
	for i, test := range []struct {
		d    api.Driver
		fuel int
		want api.Outcome
	}{
		{api.Driver{}, 0, api.Outcome{}},
		{api.Driver{}, 7, api.Outcome{Fuel: 7}},
		{halt, 0, api.Outcome{Err: api.ErrFuel}},
		{halt, 1, api.Outcome{}},
		{halt, 10000, api.Outcome{Fuel: 9999}},
		{api.Driver{Ops: []api.Op{op(api.DrvJump, 0)}}, 10000, api.Outcome{Err: api.ErrFuel}},
		{api.Driver{Ops: []api.Op{op(api.DrvJump, 1)}}, 1, api.Outcome{}},
	} {
		if out := sandbox.Run(test.d, nil, nil, test.fuel); !same(out, test.want) {
			t.Errorf("%d: Run = %+v, want %+v", i, out, test.want)
		}
	}
	// A guarded run that ends has to end in a final state; without fuel or messages it need not.
	open := api.Session{States: [][]api.Choice{{{Msg: 1, Next: 1}}, nil}}
	receive := api.Driver{Ops: []api.Op{op(api.DrvReceive)}}
	for i, test := range []struct {
		d     api.Driver
		in    []int
		fuel  int
		err   api.Errno
		keeps bool
	}{
		{api.Driver{}, nil, 5, api.OK, false}, {halt, nil, 5, api.OK, false}, {receive, []int{1}, 5, api.OK, true},
		{receive, nil, 5, api.ErrNone, true}, {receive, []int{1}, 0, api.ErrFuel, true}, {receive, []int{2}, 5, api.ErrProtocol, false}, {receive, []int{2}, 0, api.ErrFuel, true},
	} {
		if out, keeps := sandbox.Guard(test.d, open, nil, test.in, test.fuel); out.Err != test.err || keeps != test.keeps {
			t.Errorf("%d: Guard = %+v, %v", i, out, keeps)
		}
	}
}

// P25.1: the accumulator stays in its range, and starts with 0.
func TestSums(t *testing.T) {
	const most = 1000000000
	for _, test := range []struct{ first, second, third, want int }{
		{most, 1, 0, most}, {most, 1, -1, most - 1}, {-most, -1, 0, -most}, {-most, -most, most, 0}, {0, 5, -7, -2},
	} {
		d := api.Driver{Cells: 2, Ops: []api.Op{op(api.DrvAdd, test.first), op(api.DrvAdd, test.second), op(api.DrvAdd, test.third), op(api.DrvStore, 1)}}
		if out := sandbox.Run(d, []int{8, 9}, nil, 9); !same(out, api.Outcome{Cells: []int{8, test.want}, Fuel: 5}) {
			t.Errorf("%v: %+v", test, out)
		}
	}
	d := api.Driver{Cells: 2, Ops: []api.Op{op(api.DrvReceive), op(api.DrvStore, 0), op(api.DrvZero, 4), op(api.DrvJump, 0), op(api.DrvLoad, 1), op(api.DrvStore, 0)}}
	if out := sandbox.Run(d, []int{8, 9}, []int{63, 0, 5}, 99); !same(out, api.Outcome{Events: []api.Event{got(63), got(0)}, Cells: []int{9, 9}, Fuel: 90}) {
		t.Errorf("%+v", out)
	}
}

// P25.1: arguments that are not right.
func TestArguments(t *testing.T) {
	d := api.Driver{Cells: 2, Ops: []api.Op{op(api.DrvHalt)}}
	s := api.Session{States: [][]api.Choice{nil}}
	most := slices.Repeat([]int{63}, 400)
	for i, test := range []struct {
		d         api.Driver
		cells, in []int
		fuel      int
		ok        bool
	}{
		{d, []int{-1000000000, 1000000000}, most, 10000, true},
		{api.Driver{Cells: -1}, nil, nil, 1, false},
		{api.Driver{Ops: []api.Op{op(api.DrvCase)}}, nil, nil, 1, false},
		{d, []int{1}, nil, 1, false}, {d, []int{1, 2, 3}, nil, 1, false}, {d, nil, nil, 1, false},
		{d, []int{0, -1000000001}, nil, 1, false}, {d, []int{1000000001, 0}, nil, 1, false},
		{d, []int{0, 0}, append(most, 0), 1, false}, {d, []int{0, 0}, []int{0, 64}, 1, false}, {d, []int{0, 0}, []int{-1}, 1, false},
		{d, []int{0, 0}, nil, -1, false}, {d, []int{0, 0}, nil, 10001, false}, {d, []int{0, 0}, nil, math.MaxInt, false},
	} {
		out := sandbox.Run(test.d, test.cells, test.in, test.fuel)
		guarded, keeps := sandbox.Guard(test.d, s, test.cells, test.in, test.fuel)
		if ok := out.Err == api.OK; ok != test.ok || keeps != test.ok || !same(guarded, out) {
			t.Errorf("%d: %+v, %+v, %v", i, out, guarded, keeps)
		}
		if !test.ok && !same(out, api.Outcome{Err: api.ErrArg}) {
			t.Errorf("%d: %+v", i, out)
		}
	}
	for _, bad := range []api.Session{{}, {States: [][]api.Choice{{{Next: 1}}}}} {
		if out, keeps := sandbox.Guard(d, bad, []int{0, 0}, nil, 5); !same(out, api.Outcome{Err: api.ErrArg}) || keeps {
			t.Errorf("Guard with %v = %+v, %v", bad, out, keeps)
		}
	}
}

// P25.1: random drivers, against the definitions.
func TestRandom(t *testing.T) {
	m := maker{rand.New(rand.NewSource(1))}
	ends, kept := map[api.Errno]int{}, 0
	for range 6000 {
		d, s := m.driver(), m.session()
		if m.chance(4) {
			d, s = m.polite()
		}
		cells, in, fuel := m.cells(d), m.messages(), m.fuel()
		want, _ := refRun(d, nil, cells, in, fuel)
		if out := sandbox.Run(d, cells, in, fuel); !same(out, want) {
			t.Fatalf("Run(%v, %v, %v, %d) = %+v, want %+v", d, cells, in, fuel, out, want)
		}
		want, wantKeeps := refRun(d, &s, cells, in, fuel)
		out, keeps := sandbox.Guard(d, s, cells, in, fuel)
		if !same(out, want) || keeps != wantKeeps {
			t.Fatalf("Guard(%v, %v, %v, %v, %d) = %+v, %v, want %+v, %v", d, s, cells, in, fuel, out, keeps, want, wantKeeps)
		}
		ends[out.Err]++
		if keeps && out.Err == api.OK && len(out.Events) > 1 {
			kept++
		}
	}
	if ends[api.OK] < 500 || ends[api.ErrFuel] < 500 || ends[api.ErrNone] < 200 || ends[api.ErrProtocol] < 500 || kept < 50 {
		t.Errorf("the test covers too little: %v, %d", ends, kept)
	}
}

// P3: equal arguments yield equal results, arguments stay as they are, and results share no memory.
func TestIndependence(t *testing.T) {
	m := maker{rand.New(rand.NewSource(2))}
	for range 500 {
		d, s := m.driver(), m.session()
		cells, in := m.cells(d), m.messages()
		before := fmt.Sprint(d, s, cells, in)
		first := sandbox.Run(d, cells, in, 50)
		text := fmt.Sprint(first)
		for i := range first.Cells {
			first.Cells[i] = 77
		}
		for i := range first.Events {
			first.Events[i].Msg = 77
		}
		guarded, _ := sandbox.Guard(d, s, cells, in, 50)
		for i := range guarded.Cells {
			guarded.Cells[i] = 77
		}
		if again := fmt.Sprint(sandbox.Run(d, cells, in, 50)); again != text || fmt.Sprint(d, s, cells, in) != before {
			t.Fatalf("%s: %s and %s", before, text, again)
		}
	}
}
