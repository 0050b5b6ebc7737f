package sandbox_test

import (
	"math/rand"
	"slices"
	"testing"

	"domicile/api"
	"domicile/driver"
	"domicile/sandbox"
	"domicile/session"
)

func beginsWith[T comparable](l, first []T) bool {
	return len(first) <= len(l) && slices.Equal(l[:len(first)], first)
}

// P25.2: more fuel leaves more; less fuel shows the first messages.
func TestFuel(t *testing.T) {
	m := maker{rand.New(rand.NewSource(252))}
	ended, short := 0, 0
	for range 2000 {
		d := m.driver()
		cells, in, fuel, more := m.cells(d), m.messages(), m.fuel(), 1+m.Intn(50)
		out, longer := sandbox.Run(d, cells, in, fuel), sandbox.Run(d, cells, in, fuel+more)
		if !beginsWith(longer.Events, out.Events) {
			t.Fatalf("%v: %v with %d, %v with more", d, out, fuel, longer)
		}
		if out.Err == api.ErrFuel {
			short++
			if out.Fuel != 0 {
				t.Fatalf("%v: %v has fuel left", d, out)
			}
			continue
		}
		ended++
		out.Fuel += more
		if !same(out, longer) {
			t.Fatalf("%v: %v with %d, %v with more", d, out, fuel, longer)
		}
	}
	if ended < 300 || short < 300 {
		t.Errorf("the test covers too little: %d, %d", ended, short)
	}
}

func without(d api.Driver, code int) api.Driver {
	d.Ops = slices.Clone(d.Ops)
	for i, o := range d.Ops {
		if o.Code == code {
			d.Ops[i] = api.Op{Code: api.DrvAdd, A: 1}
		}
	}
	return d
}

// P25.3: the cells keep their number and range, and change by stores only; they are seen by loads only.
func TestStore(t *testing.T) {
	m := maker{rand.New(rand.NewSource(253))}
	for range 2000 {
		d := m.driver()
		cells, in, fuel := m.cells(d), m.messages(), m.fuel()
		out := sandbox.Run(d, cells, in, fuel)
		if len(out.Cells) != d.Cells {
			t.Fatalf("%v: %v", d, out)
		}
		for _, value := range out.Cells {
			if value < -1000000000 || value > 1000000000 {
				t.Fatalf("%v: %v", d, out)
			}
		}
		if out := sandbox.Run(without(d, api.DrvStore), cells, in, fuel); !slices.Equal(out.Cells, cells) {
			t.Fatalf("%v changes its cells without a store", d)
		}
		blind := without(d, api.DrvLoad)
		a, b := sandbox.Run(blind, cells, in, fuel), sandbox.Run(blind, m.cells(d), in, fuel)
		if !slices.Equal(a.Events, b.Events) || a.Err != b.Err || a.Fuel != b.Fuel {
			t.Fatalf("%v depends on its cells without a load", blind)
		}
	}
}

func received(l []api.Event) []int {
	var msgs []int
	for _, e := range l {
		if !e.Send {
			msgs = append(msgs, e.Msg)
		}
	}
	return msgs
}

// P25.4: the first messages are received, in order; further ones change nothing if none was lacking.
func TestPort(t *testing.T) {
	m := maker{rand.New(rand.NewSource(254))}
	for range 2000 {
		d := m.driver()
		cells, in, fuel := m.cells(d), m.messages(), m.fuel()
		out := sandbox.Run(d, cells, in, fuel)
		if !beginsWith(in, received(out.Events)) {
			t.Fatalf("%v: %v of %v", d, out, in)
		}
		more := sandbox.Run(d, cells, append(slices.Clone(in), m.messages()...), fuel)
		if out.Err != api.ErrNone && !same(out, more) {
			t.Fatalf("%v: %v, but with further messages %v", d, out, more)
		}
		if out.Err == api.ErrNone && len(received(out.Events)) != len(in) {
			t.Fatalf("%v: %v did not receive all of %v", d, out, in)
		}
	}
}

// P25.5: a guarded run has only permitted messages, and is otherwise the run without guard.
func TestGuard(t *testing.T) {
	m := maker{rand.New(rand.NewSource(255))}
	stopped := 0
	for range 2000 {
		d, s := m.driver(), m.session()
		cells, in, fuel := m.cells(d), m.messages(), m.fuel()
		free := sandbox.Run(d, cells, in, fuel)
		out, keeps := sandbox.Guard(d, s, cells, in, fuel)
		state, ok := session.Follow(s, out.Events)
		if !ok {
			t.Fatalf("%v: %v is not permitted by %v", d, out.Events, s)
		}
		if out.Err != api.ErrProtocol {
			if !same(out, free) || keeps != (out.Err != api.OK || len(s.States[state]) == 0) {
				t.Fatalf("%v and %v: %v, %v, but without guard %v", d, s, out, keeps, free)
			}
			continue
		}
		stopped++
		if keeps || !beginsWith(free.Events, out.Events) || len(free.Events) <= len(out.Events) && free.Err != api.ErrFuel {
			t.Fatalf("%v and %v: %v, but without guard %v", d, s, out, free)
		}
	}
	if stopped < 300 {
		t.Errorf("only %d runs were stopped", stopped)
	}
}

// P25.6: a checked driver is stopped only at a message that it would receive, and ends in a final state.
func TestCheckedDrivers(t *testing.T) {
	m := maker{rand.New(rand.NewSource(256))}
	ends := map[api.Errno]int{}
	for range 2000 {
		d, s := m.polite()
		if driver.Check(d, s) != api.OK {
			t.Fatalf("%v does not keep to %v", d, s)
		}
		in := m.messages()
		out, keeps := sandbox.Guard(d, s, []int{0}, in, 400)
		ends[out.Err]++
		if out.Err != api.ErrProtocol {
			if !keeps {
				t.Fatalf("%v does not keep to %v: %v", d, s, out)
			}
			continue
		}
		n := len(received(out.Events))
		if _, ok := session.Follow(s, append(slices.Clone(out.Events), got(in[n]))); ok {
			t.Fatalf("%v and %v with %v: %v", d, s, in, out)
		}
	}
	if ends[api.OK] < 100 || ends[api.ErrProtocol] < 100 || ends[api.ErrNone] < 100 || ends[api.ErrFuel] < 100 {
		t.Errorf("the test covers too little: %v", ends)
	}
}

// P25.7: the hub, which follows the dual session type, permits the opposite messages.
func TestOtherSide(t *testing.T) {
	m := maker{rand.New(rand.NewSource(257))}
	for range 1000 {
		d, s := m.polite()
		out, _ := sandbox.Guard(d, s, []int{0}, m.messages(), 60)
		var other []api.Event
		for _, e := range out.Events {
			other = append(other, api.Event{Send: !e.Send, Msg: e.Msg})
		}
		a, ok := session.Follow(s, out.Events)
		b, also := session.Follow(session.Dual(s), other)
		if !ok || !also || a != b {
			t.Fatalf("%v: %v, %v", s, out.Events, other)
		}
	}
}
