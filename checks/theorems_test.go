package checks

import (
	"fmt"
	"math/rand"
	"slices"
	"testing"

	"domicile/api"
	"domicile/belief"
	"domicile/delivery"
	"domicile/driver"
	"domicile/frame"
	"domicile/mesh"
	"domicile/sandbox"
	"domicile/session"
	"domicile/update"
)

// answering is a session type of a device that answers 1 with 2, and 5 with 3, and ends after this.
func answering() api.Session {
	return api.Session{States: [][]api.Choice{{{Msg: 1, Next: 1}, {Msg: 5, Next: 2}}, {{Send: true, Msg: 2}}, {{Send: true, Msg: 3, Next: 3}}, nil}}
}

// answerer is a driver that keeps to it, and counts in a cell.
func answerer(version int) api.Driver {
	return api.Driver{Name: "answerer", Version: version, Cells: 1, Ops: []api.Op{
		{Code: api.DrvReceive}, {Code: api.DrvCase, A: 5, B: 7}, {Code: api.DrvLoad}, {Code: api.DrvAdd, A: 1}, {Code: api.DrvStore}, {Code: api.DrvSend, A: 2}, {Code: api.DrvJump, A: 0}, {Code: api.DrvSend, A: 3}, {Code: api.DrvHalt},
	}}
}

// P2, T9: after an update over pieces of unknown origin, the driver is the one that was checked, and sends only what is permitted.
func TestUpdatedDrivers(t *testing.T) {
	m := rand.New(rand.NewSource(9))
	refused := 0
	for range 200 {
		d := answerer(m.Intn(1000))
		if driver.Check(d, answering()) != api.OK {
			t.Fatalf("%v does not keep to its session type", d)
		}
		var data []int
		for _, b := range driver.Encode(d) {
			data = append(data, int(b))
		}
		manifest, pieces, _ := update.Split(77, 5, 1+m.Intn(9), data)
		slot, err := update.Begin(77, 4, manifest)
		if err != api.OK {
			t.Fatalf("Begin = %d", err)
		}
		for len(update.Missing(slot)) > 0 {
			p := pieces[m.Intn(len(pieces))]
			p.Data = slices.Clone(p.Data)
			if m.Intn(2) == 0 {
				p.Data[m.Intn(len(p.Data))] = m.Intn(256)
			}
			next, err := update.Add(slot, p)
			if err != api.OK {
				refused++
			}
			slot = next
		}
		joined, _ := update.Join(slot)
		var b []byte
		for _, n := range joined {
			b = append(b, byte(n))
		}
		got, err := driver.Decode(b)
		if err != api.OK || fmt.Sprint(got) != fmt.Sprint(d) {
			t.Fatalf("%v, %d after the update, before %v", got, err, d)
		}
		in := slices.Repeat([]int{1}, m.Intn(20))
		out, keeps := sandbox.Guard(got, answering(), []int{0}, append(in, 5), 1000)
		if _, permitted := session.Follow(answering(), out.Events); !keeps || !permitted || out.Err != api.OK || out.Cells[0] != len(in) {
			t.Fatalf("%v, %v", out, keeps)
		}
	}
	if refused < 500 {
		t.Errorf("only %d forged pieces", refused)
	}
}

const (
	radioKey = 4711
	deviceAt = 3 // the node of the device; the hub is the node 0
)

// orders returns frames with orders that a hub sends, some of them several times, and the times at which they are sent first.
func orders(m *rand.Rand) ([]api.Sending, map[int]api.Order, map[int]int) {
	var s api.Sender
	var l []api.Sending
	sent, first := map[int]api.Order{}, map[int]int{}
	for i := range 8 {
		next, err := delivery.Send(s, i/3, 0, m.Intn(16))
		if err != api.OK {
			break
		}
		s = next
		o := s.Pending[len(s.Pending)-1]
		sent[o.Seq], first[o.Seq] = o, 10*i
		for try := range 1 + m.Intn(3) {
			f, _ := frame.Seal(radioKey, api.Frame{Src: 0, Dst: deviceAt, Seq: 10*i + try, Kind: 1, Body: []int{o.Seq, o.Fence, o.Var, o.Value}})
			l = append(l, api.Sending{Time: 10*i + 7*try, Frame: f})
		}
	}
	return l, sent, first
}

// radioFaults returns losses, delays, copies, and frames that were made up, or changed.
func radioFaults(m *rand.Rand, l []api.Sending) []api.RadioFault {
	var faults []api.RadioFault
	for range m.Intn(40) {
		f := api.RadioFault{Kind: 1 + m.Intn(4), Index: m.Intn(120), By: m.Intn(60), Node: m.Intn(4)}
		known := l[m.Intn(len(l))]
		if f.Kind == api.RadioForge {
			// Nobody can repeat a frame before it was sent.
			f.By += known.Time
		}
		f.Frame = known.Frame
		f.Frame.Body = slices.Clone(f.Frame.Body)
		if m.Intn(2) == 0 {
			f.Frame.Body[3] = (f.Frame.Body[3] + 1) % 16
			f.Frame.Seq += 100 + m.Intn(100)
		}
		faults = append(faults, f)
	}
	return faults
}

// P2, T10 and T11: over a radio with faults and forged frames, each order is executed at most once, and the true value is always possible.
func TestRadio(t *testing.T) {
	m := rand.New(rand.NewSource(10))
	net := api.Mesh{Nodes: []api.MeshNode{{Awake: 1, Cycle: 1, Duty: 9}, {Awake: 2, Cycle: 3, Duty: 2}, {Awake: 1, Cycle: 1, Duty: 9}, {Awake: 3, Cycle: 4, Duty: 1}},
		Links: []api.Link{{A: 0, B: 1, Delay: 1}, {A: 1, B: 3, Delay: 2}, {A: 0, B: 2, Delay: 3}, {A: 2, B: 3, Delay: 1}}}
	executed, forged, repeated := 0, 0, 0
	for range 300 {
		l, sent, first := orders(m)
		arrivals, err := mesh.Run(net, l, radioFaults(m, l), 300)
		if err != api.OK {
			t.Fatalf("Run = %d", err)
		}
		device, known := delivery.Fresh([]int{4}), belief.Known(4)
		count := map[int]int{}
		told := -1
		for _, a := range arrivals {
			// All orders that were sent by now are in flight; the hub was told of each before it can arrive.
			for ; told+1 < len(sent) && first[told+1] <= a.Time; told++ {
				o := sent[told+1]
				next, err := belief.Sent(known, o)
				if err != api.OK {
					t.Fatalf("Sent(%v, %v) = %d", known, o, err)
				}
				known = next
			}
			if a.Node != deviceAt || a.Frame.Dst != deviceAt {
				continue
			}
			if frame.Open(radioKey, a.Frame) != api.OK {
				forged++
				continue
			}
			b := a.Frame.Body
			o := api.Order{Seq: b[0], Fence: b[1], Var: b[2], Value: b[3]}
			if sent[o.Seq] != o {
				t.Fatalf("%v was never sent", o)
			}
			next, confirms, _ := delivery.Receive(device, o)
			if next.Done == device.Done && confirms {
				repeated++
			}
			count[o.Seq] += next.Done - device.Done
			device = next
			if count[o.Seq] > 1 || !belief.Can(known, device.Values[0]) {
				t.Fatalf("%v was executed %d times; %v, but %v", o, count[o.Seq], device, known)
			}
			if confirms && m.Intn(2) == 0 {
				if after, err := belief.Confirmed(known, o.Seq); err == api.OK {
					known = after
				}
				if !belief.Can(known, device.Values[0]) {
					t.Fatalf("after the confirmation of %v: %v, but %v", o, device, known)
				}
			}
		}
		executed += device.Done
	}
	if executed < 1000 || forged < 300 || repeated < 500 {
		t.Errorf("the test covers too little: %d, %d, %d", executed, forged, repeated)
	}
}
