package driver_test

import (
	"math/rand"
	"slices"

	"domicile/api"
)

// maker makes up drivers and session types.
type maker struct{ *rand.Rand }

func (m maker) chance(n int) bool { return m.Intn(n) == 0 }

// session returns a session type whose states mostly only send or only receive.
func (m maker) session() api.Session {
	s := api.Session{States: make([][]api.Choice, 1+m.Intn(5))}
	for i := range s.States {
		send := m.chance(2)
		for _, msg := range m.Perm(4)[:m.Intn(4)] {
			if m.chance(30) {
				send = !send
			}
			s.States[i] = append(s.States[i], api.Choice{Send: send, Msg: msg, Next: m.Intn(len(s.States))})
		}
	}
	return s
}

// copies returns a session type that permits the same, with copies of some states.
func (m maker) copies(s api.Session) api.Session {
	n := len(s.States)
	t := api.Session{States: make([][]api.Choice, 2*n)}
	for i := range t.States {
		for _, c := range s.States[i%n] {
			t.States[i] = append(t.States[i], api.Choice{Send: c.Send, Msg: c.Msg, Next: c.Next + n*m.Intn(2)})
		}
		slices.Reverse(t.States[i])
	}
	return t
}

// driver returns a well-formed driver without a purpose.
func (m maker) driver() api.Driver {
	d := api.Driver{Name: "abcdefghijklmnop"[:m.Intn(17)], Version: m.number(1000000000), Cells: m.Intn(65)}
	for range m.Intn(12) {
		codes := []int{api.DrvConst, api.DrvAdd, api.DrvJump, api.DrvZero, api.DrvSend, api.DrvReceive, api.DrvHalt}
		if d.Cells > 0 {
			codes = append(codes, api.DrvLoad, api.DrvStore)
		}
		if n := len(d.Ops); n > 0 && (d.Ops[n-1].Code == api.DrvReceive || d.Ops[n-1].Code == api.DrvCase) {
			codes = append(codes, api.DrvCase, api.DrvCase, api.DrvCase, api.DrvCase)
		}
		d.Ops = append(d.Ops, api.Op{Code: codes[m.Intn(len(codes))]})
	}
	for i := range d.Ops {
		m.fill(&d, i)
	}
	return d
}

func (m maker) fill(d *api.Driver, i int) {
	o := &d.Ops[i]
	switch o.Code {
	case api.DrvConst, api.DrvAdd:
		o.A = m.number(2000000001) - m.number(1000000001)
		o.A = max(-1000000000, min(1000000000, o.A))
	case api.DrvLoad, api.DrvStore:
		o.A = m.Intn(d.Cells)
	case api.DrvJump, api.DrvZero:
		o.A = m.target(*d)
	case api.DrvSend:
		o.A = m.message()
	case api.DrvCase:
		o.A, o.B = m.message(), m.target(*d)
	}
}

func (m maker) message() int {
	if m.chance(8) {
		return m.Intn(64)
	}
	return m.Intn(4)
}

func (m maker) number(n int) int {
	if m.chance(2) {
		return m.Intn(200)
	}
	return m.Intn(n)
}

func (m maker) target(d api.Driver) int {
	for {
		n := m.Intn(len(d.Ops) + 1)
		if n == len(d.Ops) || d.Ops[n].Code != api.DrvCase {
			return n
		}
	}
}

// keeper returns a driver that follows a session type; one state after the other has its part.
func (m maker) keeper(s api.Session) api.Driver {
	d := api.Driver{Cells: 2}
	starts := make([]int, len(s.States))
	type hole struct{ at, state int }
	var holes []hole
	add := func(code, a int) { d.Ops = append(d.Ops, api.Op{Code: code, A: a}) }
	for i, choices := range s.States {
		starts[i] = len(d.Ops)
		if m.chance(3) {
			add(api.DrvConst, m.Intn(9)-4)
		}
		switch {
		case len(choices) == 0:
			add(api.DrvHalt, 0)
		case choices[0].Send:
			if len(choices) > 1 && choices[1].Send {
				at := len(d.Ops)
				add(api.DrvZero, at+3)
				add(api.DrvSend, choices[1].Msg)
				add(api.DrvJump, 0)
				holes = append(holes, hole{at + 2, choices[1].Next})
			}
			add(api.DrvSend, choices[0].Msg)
			add(api.DrvJump, 0)
			holes = append(holes, hole{len(d.Ops) - 1, choices[0].Next})
		default:
			add(api.DrvReceive, 0)
			for _, c := range choices[1:] {
				add(api.DrvCase, c.Msg)
				holes = append(holes, hole{len(d.Ops) - 1, c.Next})
			}
			add(api.DrvJump, 0)
			holes = append(holes, hole{len(d.Ops) - 1, choices[0].Next})
		}
	}
	for _, h := range holes {
		if d.Ops[h.at].Code == api.DrvCase {
			d.Ops[h.at].B = starts[h.state]
		} else {
			d.Ops[h.at].A = starts[h.state]
		}
	}
	return d
}

// pairing returns a driver and a session type to which it often keeps.
func (m maker) pairing() (api.Driver, api.Session) {
	s := m.session()
	if m.chance(8) {
		return m.driver(), s
	}
	d := m.keeper(s)
	if m.chance(3) {
		m.fill(&d, m.Intn(len(d.Ops)))
	}
	return d, s
}
