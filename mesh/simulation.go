package mesh

import (
	"slices"

	"domicile/api"
)

// name is what a node knows of a frame that it has seen.
type name struct{ src, seq int }

// packet is a frame with the number of hops that it has made.
type packet struct {
	frame api.Frame
	hops  int
}

// node is a node with what it has to send and what it knows.
type node struct {
	api.MeshNode
	links       []outgoing
	queue       []packet
	known       map[name]bool
	cycle, sent int // how many frames it has sent in the cycle with this number
}

// coming is a packet that will arrive at a node.
type coming struct {
	node   int
	packet packet
}

// simulation is the mesh at a time.
type simulation struct {
	nodes    []*node
	sendings []api.Sending
	faults   []api.RadioFault
	// air has by times what will arrive, in the order of the transmissions.
	air      map[int][]coming
	made     int // transmissions
	arrivals []api.Arrival
}

func newSimulation(m api.Mesh, l []api.Sending, faults []api.RadioFault) *simulation {
	s := &simulation{sendings: l, faults: faults, air: map[int][]coming{}}
	for i, n := range m.Nodes {
		s.nodes = append(s.nodes, &node{MeshNode: n, links: linksOf(m, i), known: map[name]bool{}})
	}
	return s
}

func (s *simulation) run(until int) []api.Arrival {
	var now int
	happenings := []func(){
		func() { s.begin(now) },
		func() { s.arrive(now) },
		func() { s.forge(now) },
		func() { s.send(now) },
	}
	for now = range until + 1 {
		for _, happen := range happenings {
			happen()
		}
	}
	return s.arrivals
}

// begin puts the frames of sendings into the queues of their nodes.
func (s *simulation) begin(time int) {
	for _, sending := range s.sendings {
		if sending.Time == time {
			n := s.nodes[sending.Node]
			n.known[nameOf(sending.Frame)] = true
			n.queue = append(n.queue, packet{frame: sending.Frame})
		}
	}
}

func (s *simulation) arrive(time int) {
	for _, c := range s.air[time] {
		s.receive(time, c)
	}
	delete(s.air, time)
}

func (s *simulation) forge(time int) {
	for _, f := range s.faults {
		if f.Kind == api.RadioForge && f.By == time {
			s.receive(time, coming{f.Node, packet{f.Frame, 1}})
		}
	}
}

func (s *simulation) receive(time int, c coming) {
	n := s.nodes[c.node]
	if !Awake(n.MeshNode, time) {
		return
	}
	frame := c.packet.frame
	arrived := frame
	arrived.Body = slices.Clone(frame.Body)
	s.arrivals = append(s.arrivals, api.Arrival{Time: time, Node: c.node, Frame: arrived})
	if n.known[nameOf(frame)] {
		return
	}
	n.known[nameOf(frame)] = true
	if c.packet.hops < api.MaxHops {
		n.queue = append(n.queue, c.packet)
	}
}

// send lets each node that may do so send the first frame of its queue.
func (s *simulation) send(time int) {
	for _, n := range s.nodes {
		if len(n.queue) == 0 || !n.maySend(time) {
			continue
		}
		p := n.queue[0]
		n.queue = n.queue[1:]
		n.sent++
		p.hops++
		for _, l := range n.links {
			s.transmit(time+l.delay, coming{l.to, p})
		}
	}
}

// maySend reports whether a node is awake and has not sent too much in the present cycle.
func (n *node) maySend(time int) bool {
	if cycle := (time + n.Cycle - n.Offset) / n.Cycle; cycle != n.cycle {
		n.cycle, n.sent = cycle, 0
	}
	return Awake(n.MeshNode, time) && n.sent < n.Duty
}

// transmit makes a transmission that arrives at a time, if it has no faults.
func (s *simulation) transmit(time int, c coming) {
	number := s.made
	s.made++
	var copies []int
	for _, f := range s.faults {
		if f.Kind == api.RadioForge || f.Index != number {
			continue
		}
		switch f.Kind {
		case api.RadioLose:
			return
		case api.RadioDelay:
			time += f.By
		case api.RadioTwice:
			copies = append(copies, f.By)
		}
	}
	s.air[time] = append(s.air[time], c)
	for _, later := range copies {
		s.air[time+later] = append(s.air[time+later], c)
	}
}

func nameOf(f api.Frame) name { return name{f.Src, f.Seq} }
