package sandbox

import (
	"slices"

	"domicile/api"
)

// run is a run of a driver; it is over when it panics with an api.Errno.
type run struct {
	ops            []api.Op
	cells, in      []int
	at, acc, fuel  int
	events         []api.Event
	permit         func(api.Event)
	instructionSet map[int]func(*run, api.Op)
}

func newRun(d api.Driver, cells, in []int, fuel int) run {
	return run{
		ops: d.Ops, cells: slices.Clone(cells), in: in, fuel: fuel,
		permit:         func(api.Event) {},
		instructionSet: instructions(),
	}
}

func instructions() map[int]func(*run, api.Op) {
	return map[int]func(*run, api.Op){
		api.DrvConst:   (*run).constant,
		api.DrvLoad:    (*run).load,
		api.DrvStore:   (*run).store,
		api.DrvAdd:     (*run).add,
		api.DrvJump:    (*run).jump,
		api.DrvZero:    (*run).zero,
		api.DrvSend:    (*run).send,
		api.DrvReceive: (*run).receive,
		api.DrvHalt:    (*run).halt,
	}
}

// outcome executes the run until it is over.
func (r *run) outcome() api.Outcome {
	err := r.execute()
	return api.Outcome{Events: r.events, Cells: r.cells, Fuel: r.fuel, Err: err}
}

func (r *run) execute() (err api.Errno) {
	defer func() {
		switch over := recover().(type) {
		case api.Errno:
			err = over
		}
	}()
	for r.at < len(r.ops) {
		if r.fuel == 0 {
			panic(api.ErrFuel)
		}
		op := r.ops[r.at]
		r.instructionSet[op.Code](r, op)
		// An instruction that ends the run with an error has not come here, and takes no fuel.
		r.fuel--
	}
	return api.OK
}

func (r *run) constant(op api.Op) {
	r.acc = op.A
	r.at++
}

func (r *run) load(op api.Op) {
	r.acc = r.cells[op.A]
	r.at++
}

func (r *run) store(op api.Op) {
	r.cells[op.A] = r.acc
	r.at++
}

func (r *run) add(op api.Op) {
	r.acc = min(api.MaxNumber, max(-api.MaxNumber, r.acc+op.A))
	r.at++
}

func (r *run) jump(op api.Op) { r.at = op.A }

func (r *run) zero(op api.Op) {
	if r.acc == 0 {
		r.at = op.A
		return
	}
	r.at++
}

func (r *run) send(op api.Op) {
	r.note(api.Event{Send: true, Msg: op.A})
	r.at++
}

func (r *run) receive(api.Op) {
	if len(r.in) == 0 {
		panic(api.ErrNone)
	}
	r.note(api.Event{Msg: r.in[0]})
	r.acc = r.in[0]
	r.in = r.in[1:]
	r.at = r.wayOn()
}

// halt goes on at the end, where nothing follows.
func (r *run) halt(api.Op) { r.at = len(r.ops) }

func (r *run) note(e api.Event) {
	r.permit(e)
	r.events = append(r.events, e)
}

// wayOn returns where the run goes on after the present instruction has received the message in the accumulator.
func (r *run) wayOn() int {
	at := r.at + 1
	for ; at < len(r.ops) && r.ops[at].Code == api.DrvCase; at++ {
		if r.ops[at].A == r.acc {
			return r.ops[at].B
		}
	}
	return at
}
