package driver

import (
	"iter"

	"domicile/api"
	"domicile/session"
)

// pair is the number of an instruction with a state of a session type.
type pair struct{ at, state int }

// keeping has a well-formed driver, and the session type to which it has to keep.
type keeping struct {
	driver  api.Driver
	session api.Session
}

// op returns the instruction of a pair; the end is a halt.
func (k keeping) op(p pair) api.Op {
	if p.at == len(k.driver.Ops) {
		return api.Op{Code: api.DrvHalt}
	}
	return k.driver.Ops[p.at]
}

func (k keeping) isWrong(p pair) bool {
	choices := k.session.States[p.state]
	switch op := k.op(p); op.Code {
	case api.DrvSend:
		_, permitted := k.send(p, op.A)
		return !permitted
	case api.DrvReceive:
		for _, c := range choices {
			if c.Send {
				return true
			}
		}
		return len(choices) == 0
	case api.DrvHalt:
		return len(choices) > 0
	}
	return false
}

// following yields the pairs that follow one that is not wrong.
func (k keeping) following(p pair) iter.Seq[pair] {
	return func(yield func(pair) bool) {
		switch op := k.op(p); op.Code {
		case api.DrvHalt:
		case api.DrvJump:
			yield(pair{op.A, p.state})
		case api.DrvZero:
			if yield(pair{op.A, p.state}) {
				yield(pair{p.at + 1, p.state})
			}
		case api.DrvSend:
			state, _ := k.send(p, op.A)
			yield(pair{p.at + 1, state})
		case api.DrvReceive:
			for _, c := range k.session.States[p.state] {
				if !yield(pair{k.wayOn(p.at, c.Msg), c.Next}) {
					return
				}
			}
		default:
			yield(pair{p.at + 1, p.state})
		}
	}
}

func (k keeping) send(p pair, msg int) (int, bool) {
	return session.Next(k.session, p.state, api.Event{Send: true, Msg: msg})
}

// wayOn returns where the driver goes on after it has received a message at a place.
func (k keeping) wayOn(at, msg int) int {
	for at++; at < len(k.driver.Ops) && k.driver.Ops[at].Code == api.DrvCase; at++ {
		if k.driver.Ops[at].A == msg {
			return k.driver.Ops[at].B
		}
	}
	return at
}
