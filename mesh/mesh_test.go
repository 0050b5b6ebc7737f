package mesh_test

import (
	"fmt"
	"math"
	"math/rand"
	"slices"
	"testing"

	"domicile/api"
	"domicile/mesh"
)

func same(a, b any) bool { return fmt.Sprintf("%+v", a) == fmt.Sprintf("%+v", b) }

func always() api.MeshNode { return api.MeshNode{Awake: 1, Cycle: 1, Duty: 10} }

func row() api.Mesh {
	return api.Mesh{Nodes: []api.MeshNode{always(), always(), always()}, Links: []api.Link{{A: 0, B: 1, Delay: 2}, {A: 1, B: 2, Delay: 2}}}
}

// at writes arrivals as times and nodes.
func at(l []api.Arrival) []int {
	var list []int
	for _, a := range l {
		list = append(list, a.Time, a.Node)
	}
	return list
}

// wantArrivals checks the times and nodes of arrivals.
func wantArrivals(t *testing.T, m api.Mesh, l []api.Sending, faults []api.RadioFault, until int, want ...int) {
	t.Helper()
	got, err := mesh.Run(m, l, faults, until)
	if err != api.OK || !slices.Equal(at(got), want) {
		t.Errorf("Run(%v, %v, %v, %d) = %v, %d, want %v", m, l, faults, until, got, err, want)
	}
}

// P29.1: the examples of the chapter, and more of the kind.
func TestExamples(t *testing.T) {
	l := []api.Sending{{Time: 5, Frame: api.Frame{Src: 3, Seq: 4, Body: []int{5}}}}
	wantArrivals(t, row(), l, nil, 100, 7, 1, 9, 0, 9, 2, 11, 1)
	wantArrivals(t, row(), l, nil, 9, 7, 1, 9, 0, 9, 2)
	wantArrivals(t, row(), l, nil, 6)
	fault := func(kind, index, by int) []api.RadioFault {
		return []api.RadioFault{{Kind: kind, Index: index, By: by}}
	}
	wantArrivals(t, row(), l, fault(api.RadioLose, 0, 0), 100)
	wantArrivals(t, row(), l, fault(api.RadioLose, 2, 0), 100, 7, 1, 9, 0)
	wantArrivals(t, row(), l, fault(api.RadioTwice, 0, 3), 100, 7, 1, 9, 0, 9, 2, 10, 1, 11, 1)
	wantArrivals(t, row(), l, fault(api.RadioTwice, 0, 0), 100, 7, 1, 7, 1, 9, 0, 9, 2, 11, 1)
	wantArrivals(t, row(), l, fault(api.RadioDelay, 1, 6), 100, 7, 1, 9, 2, 11, 1, 15, 0)
	both := []api.RadioFault{{Kind: api.RadioTwice, Index: 3, By: 1}, {Kind: api.RadioDelay, Index: 3, By: 2}, {Kind: api.RadioDelay, Index: 3, By: 3}}
	wantArrivals(t, row(), l, both, 100, 7, 1, 9, 0, 9, 2, 16, 1, 17, 1)
	wantArrivals(t, row(), l, append(both, api.RadioFault{Kind: api.RadioLose, Index: 3}), 100, 7, 1, 9, 0, 9, 2)
	forge := []api.RadioFault{{Kind: api.RadioForge, By: 0, Node: 2, Frame: api.Frame{Src: 3, Seq: 4}}}
	wantArrivals(t, row(), nil, forge, 100, 0, 2, 2, 1, 4, 0, 4, 2, 6, 1)
	// The frame is known by then at 2 and 1, so that they do not pass on what was sent.
	wantArrivals(t, row(), l, forge, 100, 0, 2, 2, 1, 4, 0, 4, 2, 6, 1, 7, 1)
	got, _ := mesh.Run(row(), l, nil, 7)
	if want := []api.Arrival{{Time: 7, Node: 1, Frame: l[0].Frame}}; !same(got, want) {
		t.Errorf("Run = %v", got)
	}
}

// P29.1: sleeping nodes, and nodes that may not send often.
func TestDuty(t *testing.T) {
	m := row()
	m.Nodes[0] = api.MeshNode{Awake: 2, Cycle: 10, Offset: 7, Duty: 1}
	l := []api.Sending{{Time: 0, Frame: api.Frame{Seq: 1}}, {Time: 0, Frame: api.Frame{Seq: 2}}}
	m.Nodes[2].Duty = 0
	wantArrivals(t, m, l, nil, 100, 9, 1, 11, 2, 19, 1, 21, 2)
	m.Nodes[0].Duty = 2
	wantArrivals(t, m, l, nil, 100, 9, 1, 10, 1, 11, 2, 12, 2)
	m.Nodes[0].Offset = 9
	m.Nodes[1].Awake, m.Nodes[1].Cycle = 1, 2
	// At 0 node 0 is awake in the cycle that began before 0; node 1 is awake at even times.
	wantArrivals(t, m, l, nil, 100, 2, 1, 4, 0+2)
}

// P29.1: a frame makes at most 8 hops, and a forged one has made one.
func TestMaxHops(t *testing.T) {
	var m api.Mesh
	for i := range 12 {
		m.Nodes = append(m.Nodes, always())
		if i > 0 {
			m.Links = append(m.Links, api.Link{A: i, B: i - 1, Delay: 1})
		}
	}
	farthest := func(l []api.Arrival) int {
		last := 0
		for _, a := range l {
			last = max(last, a.Node)
		}
		return last
	}
	got, _ := mesh.Run(m, []api.Sending{{}}, nil, 100)
	if farthest(got) != 8 {
		t.Errorf("a frame comes to node %d", farthest(got))
	}
	got, _ = mesh.Run(m, nil, []api.RadioFault{{Kind: api.RadioForge}}, 100)
	if farthest(got) != 7 {
		t.Errorf("a forged frame comes to node %d", farthest(got))
	}
}

// P29.1, AC1: which meshes are well-formed.
func TestValid(t *testing.T) {
	many := api.Mesh{Nodes: slices.Repeat([]api.MeshNode{{Awake: 3600, Cycle: 3600, Offset: 3599, Duty: 1000}}, 16)}
	for a := range 16 {
		for b := range a {
			many.Links = append(many.Links, api.Link{A: a, B: b, Delay: 1000})
		}
	}
	node := func(n api.MeshNode) api.Mesh { return api.Mesh{Nodes: []api.MeshNode{n}} }
	link := func(l ...api.Link) api.Mesh { return api.Mesh{Nodes: row().Nodes, Links: l} }
	for i, test := range []struct {
		m  api.Mesh
		ok bool
	}{
		{row(), true}, {many, true}, {node(api.MeshNode{Awake: 1, Cycle: 1}), true},
		{api.Mesh{}, false}, {api.Mesh{Nodes: slices.Repeat([]api.MeshNode{always()}, 17)}, false},
		{node(api.MeshNode{Awake: 1, Cycle: 0}), false}, {node(api.MeshNode{Awake: 1, Cycle: 3601}), false}, {node(api.MeshNode{Awake: 0, Cycle: 5}), false}, {node(api.MeshNode{Awake: 6, Cycle: 5}), false},
		{node(api.MeshNode{Awake: 1, Cycle: 5, Offset: -1}), false}, {node(api.MeshNode{Awake: 1, Cycle: 5, Offset: 5}), false}, {node(api.MeshNode{Awake: 1, Cycle: 5, Duty: -1}), false}, {node(api.MeshNode{Awake: 1, Cycle: 5, Duty: 1001}), false},
		{link(api.Link{A: 0, B: 0, Delay: 1}), false}, {link(api.Link{A: 0, B: 3, Delay: 1}), false}, {link(api.Link{A: 3, B: 0, Delay: 1}), false}, {link(api.Link{A: -1, B: 0, Delay: 1}), false}, {link(api.Link{A: 0, B: -1, Delay: 1}), false},
		{link(api.Link{A: 0, B: 1, Delay: 0}), false}, {link(api.Link{A: 0, B: 1, Delay: 1001}), false},
		{link(api.Link{A: 0, B: 1, Delay: 1}, api.Link{A: 0, B: 1, Delay: 2}), false}, {link(api.Link{A: 0, B: 1, Delay: 1}, api.Link{A: 1, B: 0, Delay: 1}), false}, {link(api.Link{A: 0, B: 1, Delay: 1}, api.Link{A: 0, B: 2, Delay: 1}, api.Link{A: 2, B: 1, Delay: 1}), true},
	} {
		if got := mesh.Valid(test.m); got != test.ok {
			t.Errorf("%d: Valid(%v) = %v", i, test.m, got)
		}
		if l, err := mesh.Run(test.m, nil, nil, 0); (err == api.OK) != test.ok || len(l) > 0 || !test.ok && err != api.ErrArg {
			t.Errorf("%d: Run = %v, %d", i, l, err)
		}
		if hops := mesh.Hops(test.m, 0); (len(hops) > 0) != test.ok {
			t.Errorf("%d: Hops = %v", i, hops)
		}
	}
}

// P29.1, AC3: what is given, and the order of the errors.
func TestGiven(t *testing.T) {
	good := []api.Sending{{Time: 20000, Node: 2}}
	forge := api.RadioFault{Kind: api.RadioForge, By: 20000, Node: 2}
	for i, test := range []struct {
		l      []api.Sending
		faults []api.RadioFault
		until  int
		want   api.Errno
	}{
		{good, []api.RadioFault{forge, {Kind: api.RadioLose, Index: math.MaxInt, Node: -5}}, 20000, api.OK},
		{slices.Repeat(good, 60), slices.Repeat([]api.RadioFault{forge}, 60), 0, api.OK},
		{slices.Repeat(good, 61), nil, 0, api.ErrArg}, {nil, slices.Repeat([]api.RadioFault{forge}, 61), 0, api.ErrArg},
		{[]api.Sending{{Time: -1}}, nil, 0, api.ErrArg}, {[]api.Sending{{Time: 20001}}, nil, 0, api.ErrArg}, {[]api.Sending{{Node: -1}}, nil, 0, api.ErrArg}, {[]api.Sending{{Node: 3}}, nil, 0, api.ErrArg},
		{nil, []api.RadioFault{{}}, 0, api.ErrArg}, {nil, []api.RadioFault{{Kind: 5}}, 0, api.ErrArg}, {nil, []api.RadioFault{{Kind: 1, By: -1}}, 0, api.ErrArg}, {nil, []api.RadioFault{{Kind: 1, By: 20001}}, 0, api.ErrArg},
		{nil, []api.RadioFault{{Kind: 1, Index: -1}}, 0, api.ErrArg}, {nil, []api.RadioFault{{Kind: 4, Node: -1}}, 0, api.ErrArg}, {nil, []api.RadioFault{{Kind: 4, Node: 3}}, 0, api.ErrArg},
		{nil, nil, -1, api.ErrLimit}, {nil, nil, 20001, api.ErrLimit}, {nil, nil, math.MaxInt, api.ErrLimit}, {nil, []api.RadioFault{{}}, -1, api.ErrArg},
	} {
		if l, err := mesh.Run(row(), test.l, test.faults, test.until); err != test.want || err != api.OK && len(l) > 0 {
			t.Errorf("%d: Run = %v, %d, want %d", i, l, err, test.want)
		}
	}
}

// P29.1, AC2: when a node is awake.
func TestAwake(t *testing.T) {
	n := api.MeshNode{Awake: 2, Cycle: 5, Offset: 4}
	for time, want := range map[int]bool{0: true, 1: false, 3: false, 4: true, 5: true, 6: false, 999999999: true, 1000000000: true, 1000000001: false, 1000000004: false, -1: false, math.MinInt: false, math.MaxInt: false} {
		if got := mesh.Awake(n, time); got != want {
			t.Errorf("Awake(%d) = %v", time, got)
		}
	}
	for _, n := range []api.MeshNode{{Awake: 9}, {Awake: 9, Cycle: 3601}, {Awake: 9, Cycle: 5, Offset: -1}, {Awake: 9, Cycle: 5, Offset: 5}, {Awake: 9, Cycle: -5}, {Awake: 0, Cycle: 5}} {
		if mesh.Awake(n, 7) {
			t.Errorf("%v is awake", n)
		}
	}
	if !mesh.Awake(api.MeshNode{Awake: 9, Cycle: 3600, Offset: 3599}, 3607) {
		t.Error("the longest cycle")
	}
}

// P29.1: random meshes, against the definitions.
func TestRandom(t *testing.T) {
	m := maker{rand.New(rand.NewSource(1))}
	arrivals, faulty := 0, 0
	for range 1500 {
		net := m.mesh()
		l, faults, until := m.sendings(net, 8), m.faults(net, 8), m.Intn(100)
		want, _ := refRun(net, l, faults, until)
		got, err := mesh.Run(net, l, faults, until)
		if err != api.OK || !same(got, want) {
			t.Fatalf("Run(%v, %v, %v, %d) = %v, %d, want %v", net, l, faults, until, got, err, want)
		}
		arrivals += len(got)
		if clean, _ := refRun(net, l, nil, until); !same(clean, got) {
			faulty++
		}
		from := m.Intn(len(net.Nodes)+2) - 1
		hops := mesh.Hops(net, from)
		if from < 0 || from == len(net.Nodes) {
			if len(hops) > 0 {
				t.Fatalf("Hops(%v, %d) = %v", net, from, hops)
			}
		} else if want := refHops(net, from); !slices.Equal(hops, want) {
			t.Fatalf("Hops(%v, %d) = %v, want %v", net, from, hops, want)
		}
	}
	if arrivals < 5000 || faulty < 500 {
		t.Errorf("the test covers too little: %d, %d", arrivals, faulty)
	}
}

// P3: equal arguments yield equal results, arguments stay as they are, and results share no memory.
func TestIndependence(t *testing.T) {
	m := maker{rand.New(rand.NewSource(2))}
	for range 200 {
		net := m.mesh()
		l, faults := m.sendings(net, 8), m.faults(net, 8)
		before := fmt.Sprint(net, l, faults)
		first, _ := mesh.Run(net, l, faults, 80)
		text := fmt.Sprint(first)
		for i, a := range first {
			for j := range a.Frame.Body {
				a.Frame.Body[j] = -i
			}
		}
		again, _ := mesh.Run(net, l, faults, 80)
		if fmt.Sprint(again) != text || fmt.Sprint(net, l, faults) != before {
			t.Fatalf("%s: %s and %v", before, text, again)
		}
		hops := mesh.Hops(net, 0)
		hops[0] = 7
		if mesh.Hops(net, 0)[0] != 0 {
			t.Fatal("Hops shares memory")
		}
	}
}
