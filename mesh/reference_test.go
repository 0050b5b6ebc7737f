package mesh_test

import (
	"fmt"
	"math/rand"
	"slices"
	"sort"

	"domicile/api"
)

// flight is a copy of a transmission.
type flight struct {
	time, number, node, hops int
	frame                    api.Frame
}

// queued is a frame in a queue.
type queued struct {
	frame api.Frame
	hops  int
}

// refRun goes through the times as the chapter says, and keeps all flights in one list. It also returns the flights.
func refRun(m api.Mesh, l []api.Sending, faults []api.RadioFault, until int) ([]api.Arrival, []flight) {
	var arrivals []api.Arrival
	var flights []flight
	queues := make([][]queued, len(m.Nodes))
	known := map[string]bool{}
	sent := map[string]int{}
	made := 0
	mark := func(node int, f api.Frame) string { return fmt.Sprint(node, " ", f.Src, " ", f.Seq) }
	receive := func(time, node, hops int, f api.Frame) {
		n := m.Nodes[node]
		if (time+n.Cycle-n.Offset)%n.Cycle >= n.Awake {
			return
		}
		arrivals = append(arrivals, api.Arrival{Time: time, Node: node, Frame: f})
		if !known[mark(node, f)] {
			known[mark(node, f)] = true
			if hops < 8 {
				queues[node] = append(queues[node], queued{f, hops})
			}
		}
	}
	for time := 0; time <= until; time++ {
		for _, s := range l {
			if s.Time == time {
				queues[s.Node] = append(queues[s.Node], queued{s.Frame, 0})
				known[mark(s.Node, s.Frame)] = true
			}
		}
		var now []flight
		for _, f := range flights {
			if f.time == time {
				now = append(now, f)
			}
		}
		sort.SliceStable(now, func(i, j int) bool { return now[i].number < now[j].number })
		for _, f := range now {
			receive(time, f.node, f.hops, f.frame)
		}
		for _, f := range faults {
			if f.Kind == api.RadioForge && f.By == time {
				receive(time, f.Node, 1, f.Frame)
			}
		}
		for i, n := range m.Nodes {
			cycle := fmt.Sprint(i, " ", (time+n.Cycle-n.Offset)/n.Cycle)
			if (time+n.Cycle-n.Offset)%n.Cycle >= n.Awake || len(queues[i]) == 0 || sent[cycle] >= n.Duty {
				continue
			}
			sent[cycle]++
			q := queues[i][0]
			queues[i] = queues[i][1:]
			for _, link := range m.Links {
				if link.A != i && link.B != i {
					continue
				}
				f := flight{time + link.Delay, made, link.A + link.B - i, q.hops + 1, q.frame}
				flights = append(flights, refFaults(f, faults)...)
				made++
			}
		}
	}
	return arrivals, flights
}

// refFaults returns the copies of a flight.
func refFaults(f flight, faults []api.RadioFault) []flight {
	var its []api.RadioFault
	for _, fault := range faults {
		if fault.Index == f.number {
			its = append(its, fault)
		}
	}
	for _, fault := range its {
		if fault.Kind == api.RadioLose {
			return nil
		}
		if fault.Kind == api.RadioDelay {
			f.time += fault.By
		}
	}
	copies := []flight{f}
	for _, fault := range its {
		if fault.Kind == api.RadioTwice {
			again := f
			again.time += fault.By
			copies = append(copies, again)
		}
	}
	return copies
}

// refHops finds the least numbers by improving them along links until nothing changes.
func refHops(m api.Mesh, from int) []int {
	hops := slices.Repeat([]int{99}, len(m.Nodes))
	hops[from] = 0
	for range m.Nodes {
		for _, l := range m.Links {
			hops[l.A] = min(hops[l.A], hops[l.B]+1)
			hops[l.B] = min(hops[l.B], hops[l.A]+1)
		}
	}
	for i, n := range hops {
		if n >= 99 {
			hops[i] = -1
		}
	}
	return hops
}

// maker makes up meshes and what is given.
type maker struct{ *rand.Rand }

func (m maker) chance(n int) bool { return m.Intn(n) == 0 }

func (m maker) mesh() api.Mesh {
	var mesh api.Mesh
	for range 1 + m.Intn(7) {
		cycle := 1 + m.Intn(12)
		n := api.MeshNode{Awake: 1 + m.Intn(cycle), Cycle: cycle, Offset: m.Intn(cycle), Duty: m.Intn(4)}
		if m.chance(2) {
			n.Awake, n.Duty = cycle, 5
		}
		mesh.Nodes = append(mesh.Nodes, n)
	}
	mesh.Links = m.links(len(mesh.Nodes), 2, func() int { return 1 + m.Intn(4) })
	return mesh
}

// links returns links between nodes; of the possible ones, one in rare is there.
func (m maker) links(nodes, rare int, delay func() int) []api.Link {
	var links []api.Link
	for a := range nodes {
		for b := range a {
			if m.chance(rare) {
				l := api.Link{A: a, B: b, Delay: delay()}
				if m.chance(2) {
					l.A, l.B = b, a
				}
				links = append(links, l)
			}
		}
	}
	m.Shuffle(len(links), func(i, j int) { links[i], links[j] = links[j], links[i] })
	return links
}

func (m maker) frame() api.Frame {
	f := api.Frame{Src: m.Intn(3), Dst: m.Intn(3), Seq: m.Intn(5), Kind: m.Intn(100), Tag: m.Intn(100)}
	for range m.Intn(3) {
		f.Body = append(f.Body, m.Intn(9))
	}
	return f
}

func (m maker) sendings(mesh api.Mesh, n int) []api.Sending {
	var l []api.Sending
	for range m.Intn(n) {
		l = append(l, api.Sending{Time: m.Intn(40), Node: m.Intn(len(mesh.Nodes)), Frame: m.frame()})
	}
	return l
}

func (m maker) faults(mesh api.Mesh, n int) []api.RadioFault {
	var l []api.RadioFault
	for range m.Intn(n) {
		f := api.RadioFault{Kind: 1 + m.Intn(4), Index: m.Intn(30), By: m.Intn(12), Node: m.Intn(99) - 9, Frame: m.frame()}
		if f.Kind == api.RadioForge {
			f.Node, f.By = m.Intn(len(mesh.Nodes)), m.Intn(50)
		}
		l = append(l, f)
	}
	return l
}
