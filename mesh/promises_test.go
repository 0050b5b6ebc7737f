package mesh_test

import (
	"math/rand"
	"slices"
	"testing"

	"domicile/api"
	"domicile/mesh"
)

// P29.2: a node is awake for Awake seconds of each cycle; frames arrive only at nodes that are awake.
func TestWaking(t *testing.T) {
	m := maker{rand.New(rand.NewSource(292))}
	for range 500 {
		net := m.mesh()
		n := net.Nodes[0]
		first, awake := m.Intn(1000), 0
		for time := range n.Cycle {
			if mesh.Awake(n, first+time) {
				awake++
			}
			if k := m.Intn(50); mesh.Awake(n, first+time) != mesh.Awake(n, first+time+k*n.Cycle) {
				t.Fatalf("%v is not the same after %d cycles", n, k)
			}
		}
		if awake != n.Awake || !mesh.Awake(n, n.Offset+n.Cycle*m.Intn(9)) {
			t.Fatalf("%v is awake for %d seconds", n, awake)
		}
		l, _ := mesh.Run(net, m.sendings(net, 8), m.faults(net, 8), 80)
		for _, a := range l {
			if !mesh.Awake(net.Nodes[a.Node], a.Time) {
				t.Fatalf("%v: %v arrives at a sleeping node", net, a)
			}
		}
	}
}

// P29.3: hops of neighbours differ by at most 1; each other node has a neighbour that is nearer; both ways are equal.
func TestHops(t *testing.T) {
	m := maker{rand.New(rand.NewSource(293))}
	far, none := 0, 0
	for range 500 {
		n := 1 + m.Intn(12)
		net := api.Mesh{Nodes: slices.Repeat([]api.MeshNode{always()}, n)}
		net.Links = m.links(n, 2+m.Intn(4), func() int { return 1 + m.Intn(4) })
		from := m.Intn(n)
		hops := mesh.Hops(net, from)
		nearer := map[int]bool{from: true}
		for _, l := range net.Links {
			a, b := hops[l.A], hops[l.B]
			if (a < 0) != (b < 0) || a-b > 1 || b-a > 1 {
				t.Fatalf("%v: the hops from %d are %v", net, from, hops)
			}
			nearer[l.A] = nearer[l.A] || b == a-1
			nearer[l.B] = nearer[l.B] || a == b-1
		}
		for i, h := range hops {
			if h >= 0 && !nearer[i] || (h == 0) != (i == from) || mesh.Hops(net, i)[from] != h {
				t.Fatalf("%v: the hops from %d are %v, but back from %d %v", net, from, hops, i, mesh.Hops(net, i))
			}
			if h > 2 {
				far++
			}
			if h < 0 {
				none++
			}
		}
	}
	if far < 100 || none < 100 {
		t.Errorf("the test covers too little: %d, %d", far, none)
	}
}

// P29.4: each frame that arrives was sent or forged by then.
func TestGenuine(t *testing.T) {
	m := maker{rand.New(rand.NewSource(294))}
	for range 500 {
		net := m.mesh()
		l, faults := m.sendings(net, 6), m.faults(net, 6)
		arrivals, _ := mesh.Run(net, l, faults, 80)
		for _, a := range arrivals {
			sent := slices.ContainsFunc(l, func(s api.Sending) bool { return s.Time < a.Time && same(s.Frame, a.Frame) })
			forged := slices.ContainsFunc(faults, func(f api.RadioFault) bool {
				return f.Kind == api.RadioForge && f.By <= a.Time && same(f.Frame, a.Frame)
			})
			if !sent && !forged {
				t.Fatalf("%v, %v, %v: %v arrives", net, l, faults, a)
			}
		}
	}
}

// P29.5: a frame arrives at all nodes that are at most 8 hops away, and on each link at most once in each direction.
func TestFlooding(t *testing.T) {
	m := maker{rand.New(rand.NewSource(295))}
	beyond := 0
	for range 300 {
		n := 1 + m.Intn(16)
		net := api.Mesh{Nodes: slices.Repeat([]api.MeshNode{always()}, n)}
		delay := 1 + m.Intn(3)
		for i := 1; i < n; i++ {
			net.Links = append(net.Links, api.Link{A: i, B: max(0, i-1-m.Intn(2)), Delay: delay})
		}
		from := m.Intn(n)
		frame := api.Frame{Src: 1, Seq: 5}
		l, _ := mesh.Run(net, []api.Sending{{Time: 3, Node: from, Frame: frame}}, nil, 500)
		hops, arrived := mesh.Hops(net, from), map[int]int{}
		neighbours := map[int]int{}
		for _, link := range net.Links {
			neighbours[link.A]++
			neighbours[link.B]++
		}
		for _, a := range l {
			arrived[a.Node]++
		}
		for i, h := range hops {
			if i != from && (arrived[i] > 0) != (h <= 8) || arrived[i] > neighbours[i] {
				t.Fatalf("%v: a frame from %d arrives %d times at %d", net, from, arrived[i], i)
			}
			if h > 8 {
				beyond++
			}
		}
		for _, a := range l {
			if h := hops[a.Node]; (a.Time-3)%delay != 0 || (a.Time-3)/delay < h || (a.Time-3)/delay > h+2 {
				t.Fatalf("%v: a frame from %d arrives at %d at %d", net, from, a.Node, a.Time)
			}
		}
	}
	if beyond < 30 {
		t.Errorf("only %d nodes are too far", beyond)
	}
}

// quickest returns the least sum of delays from a node to each one.
func quickest(net api.Mesh, from int) []int {
	times := slices.Repeat([]int{1 << 30}, len(net.Nodes))
	times[from] = 0
	for range net.Nodes {
		for _, l := range net.Links {
			times[l.A] = min(times[l.A], times[l.B]+l.Delay)
			times[l.B] = min(times[l.B], times[l.A]+l.Delay)
		}
	}
	return times
}

// P29.6: frames take their time; what is given for later changes nothing before.
func TestTime(t *testing.T) {
	m := maker{rand.New(rand.NewSource(296))}
	checked := 0
	for range 500 {
		net := m.mesh()
		l, faults := m.sendings(net, 6), m.faults(net, 6)
		until := m.Intn(60)
		arrivals, _ := mesh.Run(net, l, faults, until)
		for _, a := range arrivals {
			possible := false
			for _, s := range l {
				possible = possible || same(s.Frame, a.Frame) && quickest(net, s.Node)[a.Node] <= a.Time-s.Time
			}
			for _, f := range faults {
				possible = possible || f.Kind == api.RadioForge && same(f.Frame, a.Frame) && quickest(net, f.Node)[a.Node] <= a.Time-f.By
			}
			if !possible {
				t.Fatalf("%v, %v, %v: %v arrives", net, l, faults, a)
			}
			checked++
		}
		later, more := slices.Clone(l), slices.Clone(faults)
		later = append(later, api.Sending{Time: until + 1, Frame: m.frame()})
		more = append(more, api.RadioFault{Kind: api.RadioForge, By: until + 1, Frame: m.frame()})
		all, _ := mesh.Run(net, later, more, until+50)
		if len(all) < len(arrivals) || !same(all[:len(arrivals)], arrivals) || slices.ContainsFunc(all[len(arrivals):], func(a api.Arrival) bool { return a.Time <= until }) {
			t.Fatalf("%v, %v, %v: %v until %d, but %v with more", net, l, faults, arrivals, until, all)
		}
	}
	if checked < 1000 {
		t.Errorf("only %d arrivals", checked)
	}
}

// P29.7: faults of transmissions that are not made change nothing; without sendings only forged frames arrive.
func TestFaults(t *testing.T) {
	m := maker{rand.New(rand.NewSource(297))}
	for range 500 {
		net := m.mesh()
		l, faults := m.sendings(net, 6), m.faults(net, 6)
		want, _ := mesh.Run(net, l, faults, 80)
		_, flights := refRun(net, l, faults, 80)
		made := 0
		for _, f := range flights {
			made = max(made, f.number+1)
		}
		for _, f := range faults {
			// A lost transmission was made as well.
			if f.Kind == api.RadioLose {
				made = max(made, f.Index+1)
			}
		}
		idle := api.RadioFault{Kind: 1 + m.Intn(3), Index: made + m.Intn(9), By: m.Intn(9)}
		if got, _ := mesh.Run(net, l, append(slices.Clone(faults), idle), 80); !same(got, want) {
			t.Fatalf("%v, %v, %v: %v changes something", net, l, faults, idle)
		}
		for _, a := range must(mesh.Run(net, nil, faults, 80)) {
			if !slices.ContainsFunc(faults, func(f api.RadioFault) bool { return f.Kind == api.RadioForge && same(f.Frame, a.Frame) }) {
				t.Fatalf("%v, %v: %v arrives", net, faults, a)
			}
		}
	}
}

func must(l []api.Arrival, _ api.Errno) []api.Arrival { return l }
