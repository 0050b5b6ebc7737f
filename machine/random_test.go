package machine_test

import (
	"math/rand"
	"slices"

	"domicile/api"
	"domicile/bytecode"
)

// maker makes up small valid programs in which units meet often. plain ones are what a model is compiled to.
type maker struct {
	*rand.Rand
	plain bool
}

func (m maker) chance(n int) bool { return m.Intn(n) == 0 }

func (m maker) program() api.Program {
	var p api.Program
	for i := range 1 + m.Intn(5) {
		size := 1 + m.Intn(3)
		p.Vars = append(p.Vars, api.Var{Size: size, Start: m.Intn(size), Fallback: m.Intn(size), Sensor: i == 0 || m.chance(2), Device: -1, Attr: -1})
	}
	p.Timers = m.Intn(3)
	for range m.Intn(12) {
		p.Units = append(p.Units, m.unit(p))
	}
	for range m.Intn(3) {
		p.Laws = append(p.Laws, api.LawCode{Cond: m.condition(p, 1+m.Intn(2)), Bound: m.Intn(6)})
	}
	for range m.Intn(6) {
		a, b := m.Intn(max(1, len(p.Units))), m.Intn(max(1, len(p.Units)))
		if a != b && !slices.Contains(p.Over, api.Pair{Winner: a, Loser: b}) && !slices.Contains(p.Over, api.Pair{Winner: b, Loser: a}) {
			p.Over = append(p.Over, api.Pair{Winner: a, Loser: b})
		}
	}
	return p
}

func (m maker) unit(p api.Program) api.Unit {
	u := api.Unit{Priority: m.Intn(2), Timer: -1}
	if p.Timers > 0 && m.chance(3) {
		u.Timer = m.Intn(p.Timers)
	} else if u.Trigger = m.condition(p, 1); !m.plain && m.chance(3) {
		u.Trigger = m.condition(p, 2)
	}
	if m.chance(2) {
		u.Guard = m.condition(p, 1+m.Intn(3))
	}
	for v := range p.Vars {
		if m.chance(2) {
			u.Action = append(u.Action, m.set(p, v)...)
		}
	}
	for timer := range p.Timers {
		if m.chance(2) {
			u.Action = append(u.Action, api.Instr{Op: api.InsConst, Arg: m.Intn(5)}, api.Instr{Op: api.InsStart, Arg: timer})
		}
	}
	if m.plain {
		return u
	}
	for range m.Intn(3) {
		u.Action = append(u.Action, m.set(p, m.Intn(len(p.Vars)))...)
	}
	return u
}

// set returns the instructions that set a variable.
func (m maker) set(p api.Program, v int) []api.Instr {
	return []api.Instr{{Op: api.InsConst, Arg: m.Intn(p.Vars[v].Size)}, {Op: api.InsSet, Arg: v}}
}

// condition returns a condition with some comparisons.
func (m maker) condition(p api.Program, count int) []api.Instr {
	l := m.comparison(p)
	for range count - 1 {
		more := m.comparison(p)
		if !m.plain && m.chance(2) {
			l, more = more, l
		}
		l = append(append(slices.Clone(l), more...), api.Instr{Op: api.InsAnd})
	}
	return l
}

// comparison returns a comparison of a variable with a number, the other way round, or of two of a kind.
func (m maker) comparison(p api.Program) []api.Instr {
	v := m.Intn(len(p.Vars))
	op := api.InsEq + m.Intn(6)
	size := p.Vars[v].Size
	if op > api.InsNe {
		size++
	}
	l := []api.Instr{{Op: api.InsVar, Arg: v}, {Op: api.InsConst, Arg: m.Intn(size)}, {Op: op}}
	if m.plain || m.chance(2) {
		return l
	}
	if m.chance(3) {
		l[m.Intn(2)] = api.Instr{Op: api.InsVar, Arg: m.Intn(len(p.Vars))}
	}
	l[0], l[1] = l[1], l[0]
	return l
}

// permitted returns a permitted input, and whether there is one.
func (m maker) permitted(p api.Program, s api.State) (api.Input, bool) {
	var list []api.Input
	for v, x := range p.Vars {
		for value := range x.Size {
			list = append(list, api.Input{Kind: api.InSet, Var: v, Value: value})
		}
	}
	for timer := range p.Timers {
		list = append(list, api.Input{Kind: api.InExpire, Timer: timer})
	}
	list = append(list, api.Input{Kind: api.InWait, Seconds: 1}, api.Input{Kind: api.InWait, Seconds: 2 + m.Intn(3)})
	list = slices.DeleteFunc(list, func(in api.Input) bool { return !refPermitted(p, s, in) })
	if len(list) == 0 {
		return api.Input{}, false
	}
	return list[m.Intn(len(list))], true
}

// anyInput returns an input that may be permitted or not.
func (m maker) anyInput() api.Input {
	return api.Input{Kind: 1 + m.Intn(3), Var: m.Intn(8) - 1, Value: m.Intn(5) - 1, Timer: m.Intn(4) - 1, Seconds: m.Intn(7) - 1}
}

// walks calls a function with programs, and with states and permitted inputs of random runs of them.
func walks(seed int64, plain bool, programs int, each func(m maker, p api.Program, s api.State, in api.Input)) {
	for i := range programs {
		m := maker{rand.New(rand.NewSource(seed*1000000 + int64(i))), plain}
		p := m.program()
		if bytecode.Check(p) != api.OK {
			panic("a program that is not valid")
		}
		s := refStart(p)
		for range 12 {
			in, ok := m.permitted(p, s)
			if !ok {
				break
			}
			each(m, p, s, in)
			s = refApply(p, s, in).State
		}
	}
}
