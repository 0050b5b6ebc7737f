package bytecode

import "domicile/api"

// element is a kind of elements of the stack.
type element int

// The kinds of elements.
const (
	nothing element = iota
	number
	truth
)

// argument says what the Arg of an instruction is.
type argument int

// The kinds of arguments.
const (
	zero argument = iota
	variable
	constant
	timer
)

// instruction is what an instruction does: it takes some elements of a kind, and puts one on the stack, or none.
type instruction struct {
	count int
	takes element
	puts  element
	arg   argument
}

// instructions has the instruction for each Op; that of 0 is none.
var instructions = [...]instruction{
	api.InsVar:   {0, nothing, number, variable},
	api.InsConst: {0, nothing, number, constant},
	api.InsEq:    {2, number, truth, zero},
	api.InsNe:    {2, number, truth, zero},
	api.InsLt:    {2, number, truth, zero},
	api.InsLe:    {2, number, truth, zero},
	api.InsGt:    {2, number, truth, zero},
	api.InsGe:    {2, number, truth, zero},
	api.InsAnd:   {2, truth, truth, zero},
	api.InsSet:   {1, number, nothing, variable},
	api.InsStart: {1, number, nothing, timer},
}

// effect returns the stack that a code sequence leaves, and its depth; false if the sequence is not typed.
func effect(l []api.Instr) ([]element, int, bool) {
	var stack []element
	depth := 0
	for _, i := range l {
		if !within(i.Op, api.InsVar, api.InsStart) {
			return nil, 0, false
		}
		does := instructions[i.Op]
		left := len(stack) - does.count
		if left < 0 || !every(stack[left:], func(e element) bool { return e == does.takes }) {
			return nil, 0, false
		}
		stack = stack[:left]
		if does.puts != nothing {
			stack = append(stack, does.puts)
		}
		depth = max(depth, len(stack))
	}
	return stack, depth, true
}

// codeValid reports whether the code sequences of a program are valid, of which everything else is.
func codeValid(p api.Program) bool {
	return every(p.Units, func(u api.Unit) bool {
		return (len(u.Trigger) == 0 || condition(p, u.Trigger)) && (len(u.Guard) == 0 || condition(p, u.Guard)) && action(p, u.Action)
	}) && every(p.Laws, func(l api.LawCode) bool { return condition(p, l.Cond) })
}

// condition reports whether a code sequence is a condition.
func condition(p api.Program, l []api.Instr) bool {
	if len(l) > api.MaxCode {
		return false
	}
	stack, depth, ok := effect(l)
	return ok && len(stack) == 1 && stack[0] == truth && depth <= api.MaxStack &&
		every(l, func(i api.Instr) bool { return i.Op != api.InsSet && i.Op != api.InsStart && argValid(p, i) })
}

// action reports whether a code sequence is an action.
func action(p api.Program, l []api.Instr) bool {
	if len(l) > api.MaxCode || len(l)%2 != 0 {
		return false
	}
	for i := 0; i < len(l); i += 2 {
		if !pairValid(p, l[i], l[i+1]) {
			return false
		}
	}
	return true
}

// pairValid reports whether two instructions set a variable, or start a timer.
func pairValid(p api.Program, value, target api.Instr) bool {
	if value.Op != api.InsConst || !argValid(p, value) || !within(target.Op, api.InsSet, api.InsStart) || !argValid(p, target) {
		return false
	}
	return target.Op == api.InsStart || value.Arg < p.Vars[target.Arg].Size
}

// argValid reports whether the Arg of an instruction that exists is as it has to be.
func argValid(p api.Program, i api.Instr) bool {
	switch instructions[i.Op].arg {
	case variable:
		return within(i.Arg, 0, len(p.Vars)-1)
	case constant:
		return within(i.Arg, 0, maxSeconds)
	case timer:
		return within(i.Arg, 0, p.Timers-1)
	}
	return i.Arg == 0
}
