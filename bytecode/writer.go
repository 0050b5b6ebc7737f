package bytecode

import "domicile/api"

const (
	// base is the base of the digits of numbers; it is added to each digit that is not the last one.
	base = 128
	// modulus is that of the checksum.
	modulus = 65521
)

// The bytes with which every program begins.
const head = "DB\x01"

// The bits of the flags of a variable.
const (
	flagSensor = 1 << iota
	flagPrivate
	flagShown
)

// writer has the bytes that are written so far.
type writer struct{ bytes []byte }

// program writes a valid program, without its checksum.
func (w *writer) program(p api.Program) {
	w.text(head)
	w.numbers(len(p.Vars))
	for _, v := range p.Vars {
		w.variable(v)
	}
	w.numbers(p.Timers, len(p.Units))
	for _, u := range p.Units {
		w.numbers(u.Priority, u.Timer)
		w.sequences(u.Trigger, u.Guard, u.Action)
	}
	w.numbers(len(p.Laws))
	for _, l := range p.Laws {
		w.sequences(l.Cond)
		w.numbers(l.Bound)
	}
	w.numbers(len(p.Over))
	for _, o := range p.Over {
		w.numbers(o.Winner, o.Loser)
	}
}

// text writes the bytes of a text.
func (w *writer) text(s string) { w.bytes = append(w.bytes, s...) }

// variable writes a variable.
func (w *writer) variable(v api.Var) {
	w.numbers(len(v.Name))
	w.text(v.Name)
	w.numbers(v.Size, v.Start, v.Fallback)
	var flags byte
	if v.Sensor {
		flags |= flagSensor
	}
	if v.Private {
		flags |= flagPrivate
	}
	if v.Shown {
		flags |= flagShown
	}
	w.bytes = append(w.bytes, flags)
	w.numbers(v.Device, v.Attr)
}

// sequences writes code sequences.
func (w *writer) sequences(list ...[]api.Instr) {
	for _, l := range list {
		w.numbers(len(l))
		for _, i := range l {
			w.bytes = append(w.bytes, byte(i.Op))
			w.numbers(i.Arg)
		}
	}
}

// numbers writes the codes of numbers, each of which is at least -1.
func (w *writer) numbers(list ...int) {
	for _, x := range list {
		digits := x + 1
		for digits >= base {
			w.bytes = append(w.bytes, byte(digits%base+base))
			digits /= base
		}
		w.bytes = append(w.bytes, byte(digits))
	}
}

// checksum writes the sum of all bytes so far.
func (w *writer) checksum() {
	sum := 0
	for _, b := range w.bytes {
		sum = (sum + int(b)) % modulus
	}
	w.bytes = append(w.bytes, byte(sum>>8), byte(sum))
}
