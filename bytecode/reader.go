package bytecode

import "domicile/api"

// maxDigits is the greatest number of digits of a number: none of a valid program has more, and an int has room for them.
const maxDigits = 5

// failure ends reading: it is the value of a panic.
type failure struct{}

// rest has the bytes that are not read yet.
type rest []byte

// next reads a byte.
func (r *rest) next() byte {
	return r.take(1)[0]
}

// take reads some bytes.
func (r *rest) take(count int) []byte {
	if count > len(*r) {
		panic(failure{})
	}
	taken := (*r)[:count]
	*r = (*r)[count:]
	return taken
}

// reader reads a program. It panics with a failure where the bytes cannot be those of a program.
type reader struct{ rest }

// program reads a program, without its checksum.
func (r *reader) program() api.Program {
	var p api.Program
	if string(r.take(len(head))) != head {
		panic(failure{})
	}
	for range r.count() {
		p.Vars = append(p.Vars, r.variable())
	}
	p.Timers = r.number()
	for range r.count() {
		p.Units = append(p.Units, r.unit())
	}
	for range r.count() {
		p.Laws = append(p.Laws, api.LawCode{Cond: r.sequence(), Bound: r.number()})
	}
	for range r.count() {
		p.Over = append(p.Over, api.Pair{Winner: r.number(), Loser: r.number()})
	}
	return p
}

// number reads the code of a number.
func (r *reader) number() int {
	x, weight := 0, 1
	for range maxDigits {
		digit := int(r.next())
		if digit < base {
			return x + digit*weight - 1
		}
		x += (digit - base) * weight
		weight *= base
	}
	panic(failure{})
}

// count reads the code of a number of bytes or elements.
func (r *reader) count() int {
	n := r.number()
	if n < 0 {
		panic(failure{})
	}
	return n
}

// variable reads a variable.
func (r *reader) variable() api.Var {
	var v api.Var
	v.Name = string(r.take(r.count()))
	v.Size, v.Start, v.Fallback = r.number(), r.number(), r.number()
	flags := r.next()
	v.Sensor, v.Private, v.Shown = flags&flagSensor != 0, flags&flagPrivate != 0, flags&flagShown != 0
	v.Device, v.Attr = r.number(), r.number()
	return v
}

// unit reads a unit.
func (r *reader) unit() api.Unit {
	return api.Unit{Priority: r.number(), Timer: r.number(), Trigger: r.sequence(), Guard: r.sequence(), Action: r.sequence()}
}

// sequence reads a code sequence.
func (r *reader) sequence() []api.Instr {
	var l []api.Instr
	for range r.count() {
		l = append(l, api.Instr{Op: int(r.next()), Arg: r.number()})
	}
	return l
}
