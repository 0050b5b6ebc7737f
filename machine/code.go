package machine

import "domicile/api"

// maxConstant bounds the numbers that an instruction puts on the stack.
const maxConstant = 86400

// failure ends an execution at an instruction that does not fit: it is the value of a panic.
type failure struct{}

// demand ends an execution if something is not as it has to be.
func demand(ok bool) {
	if !ok {
		panic(failure{})
	}
}

// stack is a stack with room for 16 elements.
type stack[T any] struct{ elements []T }

// push puts an element on the stack.
func (s *stack[T]) push(e T) {
	demand(len(s.elements) < api.MaxStack)
	s.elements = append(s.elements, e)
}

// pop takes the top element from the stack.
func (s *stack[T]) pop() T {
	last := len(s.elements) - 1
	demand(last >= 0)
	e := s.elements[last]
	s.elements = s.elements[:last]
	return e
}

// element is a number or a truth value.
type element struct {
	truth  bool
	number int
	holds  bool
}

// execution is the execution of a condition for some values.
type execution struct {
	stack[element]
	values []int
}

// number takes a number from the stack.
func (e *execution) number() int {
	top := e.pop()
	demand(!top.truth)
	return top.number
}

// holds takes a truth value from the stack.
func (e *execution) holds() bool {
	top := e.pop()
	demand(top.truth)
	return top.holds
}

// table has what each instruction does, by its Op.
type table map[int]func(e *execution, arg int)

// conditions returns the instructions of conditions.
func conditions() table {
	return table{
		api.InsVar: func(e *execution, arg int) {
			demand(within(arg, 0, len(e.values)-1))
			e.push(element{number: e.values[arg]})
		},
		api.InsConst: func(e *execution, arg int) {
			demand(within(arg, 0, maxConstant))
			e.push(element{number: arg})
		},
		api.InsEq: comparing(func(lower, upper int) bool { return lower == upper }),
		api.InsNe: comparing(func(lower, upper int) bool { return lower != upper }),
		api.InsLt: comparing(func(lower, upper int) bool { return lower < upper }),
		api.InsLe: comparing(func(lower, upper int) bool { return lower <= upper }),
		api.InsGt: comparing(func(lower, upper int) bool { return lower > upper }),
		api.InsGe: comparing(func(lower, upper int) bool { return lower >= upper }),
		api.InsAnd: func(e *execution, arg int) {
			demand(arg == 0)
			upper, lower := e.holds(), e.holds()
			e.push(element{truth: true, holds: lower && upper})
		},
	}
}

// comparing returns an instruction that compares the lower one of two numbers with the upper one.
func comparing(compare func(lower, upper int) bool) func(*execution, int) {
	return func(e *execution, arg int) {
		demand(arg == 0)
		upper := e.number()
		lower := e.number()
		e.push(element{truth: true, holds: compare(lower, upper)})
	}
}

// value returns the value of a condition. It panics with a failure if the code is neither empty nor a condition for as many variables as there are values.
func (t table) value(l []api.Instr, values []int) bool {
	if len(l) == 0 {
		return true
	}
	e := &execution{values: values}
	for _, i := range l {
		do, ok := t[i.Op]
		demand(ok)
		do(e, i.Arg)
	}
	holds := e.holds()
	demand(len(e.elements) == 0)
	return holds
}

// within reports whether a number is from low to high.
func within(n, low, high int) bool { return low <= n && n <= high }
