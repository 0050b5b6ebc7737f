package bytecode_test

import (
	"math/rand"
	"slices"

	"domicile/api"
)

// maker makes up valid programs.
type maker struct{ *rand.Rand }

func (m maker) chance(n int) bool { return m.Intn(n) == 0 }

func (m maker) program() api.Program {
	var p api.Program
	for range m.Intn(5) {
		size := 1 + m.Intn(16)
		p.Vars = append(p.Vars, api.Var{
			Name: []string{"", "a", "l.power", "\xff\x00", string(make([]byte, 200))}[m.Intn(5)], Size: size, Start: m.Intn(size), Fallback: m.Intn(size),
			Sensor: m.chance(2), Private: m.chance(2), Shown: m.chance(2), Device: m.number(1000000000), Attr: m.number(1000000000)})
	}
	p.Timers = m.Intn(41)
	for range m.Intn(5) {
		p.Units = append(p.Units, m.unit(p))
	}
	for range m.Intn(3) {
		if cond := m.condition(p); cond != nil {
			p.Laws = append(p.Laws, api.LawCode{Cond: cond, Bound: m.Intn(86401)})
		}
	}
	for range m.Intn(4) {
		m.prefer(&p)
	}
	return p
}

// prefer adds a preference, if it is valid.
func (m maker) prefer(p *api.Program) {
	if len(p.Units) == 0 {
		return
	}
	a, b := m.Intn(len(p.Units)), m.Intn(len(p.Units))
	if a != b && !slices.Contains(p.Over, api.Pair{Winner: a, Loser: b}) && !slices.Contains(p.Over, api.Pair{Winner: b, Loser: a}) {
		p.Over = append(p.Over, api.Pair{Winner: a, Loser: b})
	}
}

// number returns a number from -1 to a bound.
func (m maker) number(most int) int {
	return min(most, []int{-1, 0, 126, 127, 128, 16382, 16383, most, m.Intn(most + 1)}[m.Intn(9)])
}

func (m maker) unit(p api.Program) api.Unit {
	u := api.Unit{Priority: m.Intn(101), Timer: -1}
	if u.Trigger = m.condition(p); u.Trigger == nil || p.Timers > 0 && m.chance(3) {
		p.Timers = max(1, p.Timers)
		u.Timer, u.Trigger = m.Intn(p.Timers), nil
	}
	if m.chance(2) {
		u.Guard = m.condition(p)
	}
	for range m.Intn(4) {
		u.Action = append(u.Action, m.pair(p)...)
	}
	return u
}

// pair returns two instructions of an action.
func (m maker) pair(p api.Program) []api.Instr {
	if p.Timers > 0 && (len(p.Vars) == 0 || m.chance(2)) {
		return []api.Instr{{Op: api.InsConst, Arg: m.Intn(86401)}, {Op: api.InsStart, Arg: m.Intn(p.Timers)}}
	}
	if len(p.Vars) == 0 {
		return nil
	}
	v := m.Intn(len(p.Vars))
	return []api.Instr{{Op: api.InsConst, Arg: m.Intn(p.Vars[v].Size)}, {Op: api.InsSet, Arg: v}}
}

// condition returns a condition of a depth up to 16.
func (m maker) condition(p api.Program) []api.Instr {
	l := m.comparison(p)
	for range m.Intn(4) {
		more := m.comparison(p)
		if _, depth, _ := refStack(l); depth < 16 && m.chance(2) {
			l, more = more, l
		}
		l = append(append(slices.Clone(l), more...), api.Instr{Op: api.InsAnd})
	}
	return l
}

// comparison returns a comparison of variables and constants.
func (m maker) comparison(p api.Program) []api.Instr {
	number := func() api.Instr {
		if len(p.Vars) > 0 && m.chance(2) {
			return api.Instr{Op: api.InsVar, Arg: m.Intn(len(p.Vars))}
		}
		return api.Instr{Op: api.InsConst, Arg: m.Intn(86401)}
	}
	return []api.Instr{number(), number(), {Op: api.InsEq + m.Intn(6)}}
}

// anyCode returns a sequence of any instructions; many of them are typed for a while.
func (m maker) anyCode() []api.Instr {
	var l []api.Instr
	for range m.Intn(12) {
		l = append(l, api.Instr{Op: m.Intn(13), Arg: m.Intn(4) - 1})
		for range m.Intn(3) {
			l = append(l, api.Instr{Op: api.InsVar + m.Intn(2), Arg: m.Intn(3)})
		}
	}
	return l
}

// spoil changes a program in one place; often it is not valid afterwards.
func (m maker) spoil(p *api.Program) {
	odd := []int{-2, -1, 0, 1, 2, 15, 16, 17, 40, 41, 100, 101, 86400, 86401, 1000000000, 1000000001, 1 << 62, -1 << 63}
	n := odd[m.Intn(len(odd))]
	unit, law, v := m.Intn(len(p.Units)+1), m.Intn(len(p.Laws)+1), m.Intn(len(p.Vars)+1)
	switch k := m.Intn(8); {
	case k == 0:
		p.Timers = n
	case k == 1 && v < len(p.Vars):
		*[]*int{&p.Vars[v].Size, &p.Vars[v].Start, &p.Vars[v].Fallback, &p.Vars[v].Device, &p.Vars[v].Attr}[m.Intn(5)] = n
	case k == 2 && unit < len(p.Units):
		*[]*int{&p.Units[unit].Priority, &p.Units[unit].Timer}[m.Intn(2)] = n
	case k == 3 && law < len(p.Laws):
		p.Laws[law].Bound = n
	case k == 4:
		p.Over = append(p.Over, api.Pair{Winner: m.Intn(5) - 1, Loser: m.Intn(5) - 1})
	case k >= 5 && unit < len(p.Units):
		u := &p.Units[unit]
		m.spoilCode([]*[]api.Instr{&u.Trigger, &u.Guard, &u.Action}[m.Intn(3)], n)
	case law < len(p.Laws):
		m.spoilCode(&p.Laws[law].Cond, n)
	}
}

// spoilCode changes a sequence in one place.
func (m maker) spoilCode(l *[]api.Instr, n int) {
	if len(*l) == 0 || m.chance(8) {
		*l = m.anyCode()
		return
	}
	at := m.Intn(len(*l))
	switch m.Intn(4) {
	case 0:
		(*l)[at].Op = m.Intn(14) - 1
	case 1:
		(*l)[at].Arg = n
	case 2:
		*l = slices.Delete(*l, at, at+1)
	case 3:
		*l = slices.Insert(*l, at, api.Instr{Op: m.Intn(12), Arg: m.Intn(2)})
	}
}
