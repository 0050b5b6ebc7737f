package sandbox_test

import (
	"math/rand"

	"domicile/api"
)

// refRun follows the text of the chapter; without a session type it is no guarded run.
func refRun(d api.Driver, s *api.Session, cells, in []int, fuel int) (api.Outcome, bool) {
	out := api.Outcome{Cells: append([]int{}, cells...), Fuel: fuel}
	pc, acc, state, received := 0, 0, 0, 0
	message := func(send bool, msg int) bool {
		if s != nil {
			next := -1
			for _, c := range s.States[state] {
				if c.Send == send && c.Msg == msg {
					next = c.Next
				}
			}
			if next < 0 {
				out.Err = api.ErrProtocol
				return false
			}
			state = next
		}
		out.Events = append(out.Events, api.Event{Send: send, Msg: msg})
		return true
	}
loop:
	for pc != len(d.Ops) {
		if out.Fuel == 0 {
			out.Err = api.ErrFuel
			break
		}
		o := d.Ops[pc]
		out.Fuel--
		pc++
		switch o.Code {
		case api.DrvConst:
			acc = o.A
		case api.DrvLoad:
			acc = out.Cells[o.A]
		case api.DrvStore:
			out.Cells[o.A] = acc
		case api.DrvAdd:
			acc += o.A
			if acc > 1000000000 {
				acc = 1000000000
			}
			if acc < -1000000000 {
				acc = -1000000000
			}
		case api.DrvJump:
			pc = o.A
		case api.DrvZero:
			if acc == 0 {
				pc = o.A
			}
		case api.DrvSend:
			if !message(true, o.A) {
				out.Fuel++
				break loop
			}
		case api.DrvReceive:
			if received == len(in) {
				out.Fuel++
				out.Err = api.ErrNone
				break loop
			}
			if !message(false, in[received]) {
				out.Fuel++
				break loop
			}
			acc = in[received]
			received++
			target := -1
			for ; pc < len(d.Ops) && d.Ops[pc].Code == api.DrvCase; pc++ {
				if target < 0 && d.Ops[pc].A == acc {
					target = d.Ops[pc].B
				}
			}
			if target >= 0 {
				pc = target
			}
		case api.DrvHalt:
			break loop
		}
	}
	keeps := out.Err != api.ErrProtocol
	if s != nil && out.Err == api.OK && len(s.States[state]) > 0 {
		keeps = false
	}
	return out, keeps
}

// maker makes up drivers, session types and arguments.
type maker struct{ *rand.Rand }

func (m maker) chance(n int) bool { return m.Intn(n) == 0 }

// driver returns a well-formed driver that often loops, computes and speaks.
func (m maker) driver() api.Driver {
	d := api.Driver{Cells: 1 + m.Intn(3)}
	codes := []int{api.DrvConst, api.DrvLoad, api.DrvStore, api.DrvAdd, api.DrvJump, api.DrvZero, api.DrvSend, api.DrvReceive, api.DrvSend, api.DrvReceive, api.DrvHalt}
	for range m.Intn(16) {
		code := codes[m.Intn(len(codes))]
		if n := len(d.Ops); n > 0 && (d.Ops[n-1].Code == api.DrvReceive || d.Ops[n-1].Code == api.DrvCase) && m.chance(2) {
			code = api.DrvCase
		}
		if code == api.DrvHalt && m.chance(2) {
			code = api.DrvReceive
		}
		d.Ops = append(d.Ops, api.Op{Code: code})
	}
	for i := range d.Ops {
		o := &d.Ops[i]
		switch o.Code {
		case api.DrvConst, api.DrvAdd:
			o.A = m.Intn(7) - 3
			if m.chance(4) {
				o.A = []int{-1000000000, 1000000000, 999999999, -600000000, 600000000}[m.Intn(5)]
			}
		case api.DrvLoad, api.DrvStore:
			o.A = m.Intn(d.Cells)
		case api.DrvJump, api.DrvZero:
			o.A = m.target(d)
		case api.DrvSend:
			o.A = m.Intn(3)
		case api.DrvCase:
			o.A, o.B = m.Intn(3), m.target(d)
		}
	}
	return d
}

func (m maker) target(d api.Driver) int {
	for {
		n := m.Intn(len(d.Ops) + 1)
		if n == len(d.Ops) || d.Ops[n].Code != api.DrvCase {
			return n
		}
	}
}

func (m maker) cells(d api.Driver) []int {
	l := make([]int, d.Cells)
	for i := range l {
		l[i] = m.Intn(7) - 3
		if m.chance(5) {
			l[i] = 2000000000*m.Intn(2) - 1000000000
		}
	}
	return l
}

func (m maker) messages() []int {
	l := make([]int, m.Intn(12))
	for i := range l {
		l[i] = m.Intn(3)
	}
	return l
}

func (m maker) fuel() int {
	if m.chance(3) {
		return m.Intn(10)
	}
	return m.Intn(300)
}

// session returns a session type that permits most messages.
func (m maker) session() api.Session {
	s := api.Session{States: make([][]api.Choice, 1+m.Intn(4))}
	for i := range s.States {
		for msg := range 3 {
			for _, send := range []bool{false, true} {
				if !m.chance(5) {
					s.States[i] = append(s.States[i], api.Choice{Send: send, Msg: msg, Next: m.Intn(len(s.States))})
				}
			}
		}
		if m.chance(6) {
			s.States[i] = nil
		}
	}
	return s
}

// polite returns a session type whose states only send or only receive, and a driver that keeps to it.
func (m maker) polite() (api.Driver, api.Session) {
	s := api.Session{States: make([][]api.Choice, 2+m.Intn(3))}
	d := api.Driver{Cells: 1}
	n := len(s.States)
	for i := range s.States {
		next, other := m.Intn(n), m.Intn(n)
		switch m.Intn(5) {
		case 0, 1:
			s.States[i] = []api.Choice{{Send: true, Msg: 1, Next: next}, {Send: true, Msg: 2, Next: other}}
			d.Ops = append(d.Ops, api.Op{Code: api.DrvZero, A: 6*i + 3}, api.Op{Code: api.DrvSend, A: 1}, api.Op{Code: api.DrvJump, A: 6 * next},
				api.Op{Code: api.DrvSend, A: 2}, api.Op{Code: api.DrvConst, A: m.Intn(2)}, api.Op{Code: api.DrvJump, A: 6 * other})
		case 2:
			d.Ops = append(d.Ops, api.Op{Code: api.DrvHalt}, api.Op{Code: api.DrvHalt}, api.Op{Code: api.DrvHalt}, api.Op{Code: api.DrvHalt}, api.Op{Code: api.DrvHalt}, api.Op{Code: api.DrvHalt})
		default:
			s.States[i] = []api.Choice{{Msg: 0, Next: next}, {Msg: 1, Next: other}}
			d.Ops = append(d.Ops, api.Op{Code: api.DrvReceive}, api.Op{Code: api.DrvCase, A: 1, B: 6*i + 4}, api.Op{Code: api.DrvAdd, A: 1}, api.Op{Code: api.DrvJump, A: 6 * next},
				api.Op{Code: api.DrvStore}, api.Op{Code: api.DrvJump, A: 6 * other})
		}
	}
	return d, s
}
