package bytecode_test

import (
	"math/big"
	"slices"
	"strings"

	"domicile/api"
)

// refStack returns the stack that a sequence leaves, as a text with n for numbers and t for truth values, and its depth; false if the sequence is not typed.
func refStack(l []api.Instr) (string, int, bool) {
	stack, depth := "", 0
	for _, i := range l {
		takes, puts := "", ""
		switch i.Op {
		case api.InsVar, api.InsConst:
			puts = "n"
		case api.InsEq, api.InsNe, api.InsLt, api.InsLe, api.InsGt, api.InsGe:
			takes, puts = "nn", "t"
		case api.InsAnd:
			takes, puts = "tt", "t"
		case api.InsSet, api.InsStart:
			takes = "n"
		default:
			return "", 0, false
		}
		if !strings.HasSuffix(stack, takes) {
			return "", 0, false
		}
		stack = strings.TrimSuffix(stack, takes) + puts
		depth = max(depth, len(stack))
	}
	return stack, depth, true
}

// refCondition says whether a sequence is a condition.
func refCondition(p api.Program, l []api.Instr) bool {
	stack, depth, ok := refStack(l)
	if !ok || stack != "t" || depth > 16 || len(l) > 400 {
		return false
	}
	for _, i := range l {
		switch {
		case i.Op == api.InsSet || i.Op == api.InsStart:
			return false
		case i.Op == api.InsVar && (i.Arg < 0 || i.Arg >= len(p.Vars)):
			return false
		case i.Op == api.InsConst && (i.Arg < 0 || i.Arg > 86400):
			return false
		case i.Op != api.InsVar && i.Op != api.InsConst && i.Arg != 0:
			return false
		}
	}
	return true
}

// refAction says whether a sequence is an action.
func refAction(p api.Program, l []api.Instr) bool {
	if len(l) > 400 {
		return false
	}
	for pair := range slices.Chunk(l, 2) {
		if len(pair) == 1 || pair[0].Op != api.InsConst || pair[0].Arg < 0 || pair[0].Arg > 86400 {
			return false
		}
		switch to := pair[1]; to.Op {
		case api.InsSet:
			if to.Arg < 0 || to.Arg >= len(p.Vars) || pair[0].Arg >= p.Vars[to.Arg].Size {
				return false
			}
		case api.InsStart:
			if to.Arg < 0 || to.Arg >= p.Timers {
				return false
			}
		default:
			return false
		}
	}
	return true
}

// refCheck returns what Check has to return.
func refCheck(p api.Program) api.Errno {
	right := len(p.Vars) <= 1200 && p.Timers >= 0 && p.Timers <= 40 && len(p.Units) <= 400 && len(p.Laws) <= 20 && len(p.Over) <= 400
	for _, v := range p.Vars {
		right = right && v.Size >= 1 && v.Size <= 16 && v.Start >= 0 && v.Start < v.Size && v.Fallback >= 0 && v.Fallback < v.Size
		right = right && v.Device >= -1 && v.Device <= 1000000000 && v.Attr >= -1 && v.Attr <= 1000000000
	}
	for _, u := range p.Units {
		right = right && u.Priority >= 0 && u.Priority <= 100 && u.Timer >= -1 && u.Timer < p.Timers
		right = right && (u.Timer == -1) == (len(u.Trigger) > 0)
	}
	for _, l := range p.Laws {
		right = right && len(l.Cond) > 0 && l.Bound >= 0 && l.Bound <= 86400
	}
	for i, a := range p.Over {
		right = right && min(a.Winner, a.Loser) >= 0 && max(a.Winner, a.Loser) < len(p.Units) && a.Winner != a.Loser
		for _, b := range p.Over[:min(i, 401)] {
			right = right && a != b && (a.Winner != b.Loser || a.Loser != b.Winner)
		}
	}
	if !right {
		return api.ErrArg
	}
	for _, u := range p.Units {
		right = right && (u.Timer != -1 || refCondition(p, u.Trigger)) && (len(u.Guard) == 0 || refCondition(p, u.Guard)) && refAction(p, u.Action)
	}
	for _, l := range p.Laws {
		right = right && refCondition(p, l.Cond)
	}
	if !right {
		return api.ErrCode
	}
	return api.OK
}

// refNumber returns the code of a number.
func refNumber(x int) []byte {
	n := big.NewInt(int64(x + 1))
	if n.Sign() == 0 {
		return []byte{0}
	}
	var digits []byte
	for _, bit := range slices.Backward([]byte(n.Text(2))) {
		digits = append(digits, bit-'0')
	}
	var code []byte
	for chunk := range slices.Chunk(digits, 7) {
		value := byte(128)
		for i, bit := range chunk {
			value += bit << i
		}
		code = append(code, value)
	}
	code[len(code)-1] -= 128
	return code
}

// refSequence returns the code of a sequence.
func refSequence(l []api.Instr) []byte {
	b := refNumber(len(l))
	for _, i := range l {
		b = slices.Concat(b, []byte{byte(i.Op)}, refNumber(i.Arg))
	}
	return b
}

// refEncode returns the bytes of a valid program.
func refEncode(p api.Program) []byte {
	b := slices.Concat([]byte{68, 66, 1}, refNumber(len(p.Vars)))
	for _, v := range p.Vars {
		flags := map[bool]byte{true: 1}[v.Sensor] + map[bool]byte{true: 2}[v.Private] + map[bool]byte{true: 4}[v.Shown]
		b = slices.Concat(b, refNumber(len(v.Name)), []byte(v.Name), refNumber(v.Size), refNumber(v.Start), refNumber(v.Fallback), []byte{flags}, refNumber(v.Device), refNumber(v.Attr))
	}
	b = slices.Concat(b, refNumber(p.Timers), refNumber(len(p.Units)))
	for _, u := range p.Units {
		b = slices.Concat(b, refNumber(u.Priority), refNumber(u.Timer), refSequence(u.Trigger), refSequence(u.Guard), refSequence(u.Action))
	}
	b = append(b, refNumber(len(p.Laws))...)
	for _, l := range p.Laws {
		b = slices.Concat(b, refSequence(l.Cond), refNumber(l.Bound))
	}
	b = append(b, refNumber(len(p.Over))...)
	for _, o := range p.Over {
		b = slices.Concat(b, refNumber(o.Winner), refNumber(o.Loser))
	}
	return withSum(b)
}

// withSum returns bytes and their checksum.
func withSum(b []byte) []byte {
	sum := 0
	for _, x := range b {
		sum += int(x)
	}
	return append(slices.Clone(b), byte(sum%65521/256), byte(sum%65521%256))
}

// refReader reads bytes strictly; ok becomes false at the first thing that is wrong.
type refReader struct {
	b  []byte
	ok bool
}

// byte reads a byte.
func (r *refReader) byte() int {
	if len(r.b) == 0 {
		r.ok = false
		return 0
	}
	b := r.b[0]
	r.b = r.b[1:]
	return int(b)
}

// number reads a number; no number of a program that fits a test has more than 4 digits behind the first one.
func (r *refReader) number() int {
	x := 0
	for i := range 5 {
		b := r.byte()
		x |= (b & 127) << (7 * i)
		if b < 128 {
			r.ok = r.ok && (b > 0 || i == 0)
			return x - 1
		}
	}
	r.ok = false
	return 0
}

// list reads a number and as many elements.
func (r *refReader) list(element func()) {
	n := r.number()
	r.ok = r.ok && n >= 0
	for i := 0; i < n && r.ok; i++ {
		element()
	}
}

// sequence reads a code sequence.
func (r *refReader) sequence() []api.Instr {
	var l []api.Instr
	r.list(func() {
		op := r.byte()
		l = append(l, api.Instr{Op: op, Arg: r.number()})
	})
	return l
}

// refDecode returns the program with some bytes, and whether there is one.
func refDecode(b []byte) (api.Program, bool) {
	if len(b) < 5 || !slices.Equal(withSum(b[:len(b)-2]), b) {
		return api.Program{}, false
	}
	r := &refReader{b[:len(b)-2], true}
	var p api.Program
	r.ok = r.byte() == 68 && r.byte() == 66 && r.byte() == 1
	r.list(func() {
		var v api.Var
		r.list(func() { v.Name += string([]byte{byte(r.byte())}) })
		v.Size = r.number()
		v.Start = r.number()
		v.Fallback = r.number()
		flags := r.byte()
		r.ok = r.ok && flags < 8
		v.Sensor, v.Private, v.Shown = flags%2 == 1, flags/2%2 == 1, flags/4 == 1
		v.Device = r.number()
		v.Attr = r.number()
		p.Vars = append(p.Vars, v)
	})
	p.Timers = r.number()
	r.list(func() {
		var u api.Unit
		u.Priority = r.number()
		u.Timer = r.number()
		u.Trigger = r.sequence()
		u.Guard = r.sequence()
		u.Action = r.sequence()
		p.Units = append(p.Units, u)
	})
	r.list(func() {
		cond := r.sequence()
		p.Laws = append(p.Laws, api.LawCode{Cond: cond, Bound: r.number()})
	})
	r.list(func() {
		winner := r.number()
		p.Over = append(p.Over, api.Pair{Winner: winner, Loser: r.number()})
	})
	if !r.ok || len(r.b) > 0 || refCheck(p) != api.OK {
		return api.Program{}, false
	}
	return p, true
}
