package typing_test

import (
	"math/rand"
	"strconv"

	"domicile/api"
)

// maker makes up houses from few names, so that most references mean something. wrong says how seldom something is made up that may be wrong: once in so many times, never if it is 0.
type maker struct {
	*rand.Rand
	wrong int
}

// slip reports true now and then, where something may go wrong.
func (m maker) slip() bool { return m.wrong > 0 && m.Intn(m.wrong) == 0 }

func (m maker) chance(n int) bool { return m.Intn(n) == 0 }

// pick returns one of some elements.
func pick[T any](m maker, list ...T) T { return list[m.Intn(len(list))] }

// name returns a name with a letter of its own and a small number.
func (m maker) name(letter string, count int) string {
	if m.slip() {
		return pick(m, "", "mode", "quiet", "nowhere", "on", letter+"0", "p0", "d0")
	}
	return letter + strconv.Itoa(m.Intn(count))
}

// names returns all names with a letter; with a slip, one of them is another one.
func (m maker) names(letter string, count int) []string {
	var list []string
	for i := range count {
		if m.slip() {
			list = append(list, m.name(letter, count))
		} else {
			list = append(list, letter+strconv.Itoa(i))
		}
	}
	return list
}

// seconds returns a duration.
func (m maker) seconds() api.Quantity {
	if m.slip() {
		return pick(m, api.Quantity{}, api.Quantity{Tenths: 10, Unit: "C"}, api.Quantity{Tenths: 5, Unit: "s"}, api.Quantity{Tenths: 864010, Unit: "s"}, api.Quantity{Tenths: -10, Unit: "s"}, api.Quantity{Tenths: 10, Unit: "x"}, api.Quantity{Tenths: 1 << 40, Unit: "s"}, api.Quantity{Unit: "h"})
	}
	return pick(m, api.Quantity{Tenths: 50, Unit: "s"}, api.Quantity{Tenths: 15, Unit: "min"}, api.Quantity{Tenths: 240, Unit: "h"}, api.Quantity{Tenths: 10, Unit: "s"})
}

// The attributes of all kinds: a0 has names, a1 percents, a2 a power, a3 names, and is a sensor.
func (m maker) attrs() []api.Attr {
	list := []api.Attr{
		{Name: "a0", Values: []string{"off", "on", "dim"}, Start: api.Literal{Name: "off"}, Fallback: api.Literal{Name: "on"}, Shown: true},
		{Name: "a1", Low: q(0, "%"), High: q(1000, "%"), Step: q(100, "%"), Start: api.Literal{Quantity: q(500, "%")}, Fallback: api.Literal{Quantity: q(0, "%")}},
		{Name: "a2", Low: q(-5000, "W"), High: q(20, "kW"), Step: q(5, "kW"), Start: api.Literal{Quantity: q(0, "W")}, Fallback: api.Literal{Quantity: q(10, "kW")}, Private: true},
		{Name: "a3", Values: []string{"off", "on"}, Start: api.Literal{Name: "on"}, Fallback: api.Literal{Name: "on"}, Sensor: true},
	}[:1+m.Intn(4)]
	for i := range list {
		if m.slip() {
			m.spoil(&list[i])
		}
	}
	m.Shuffle(len(list), func(i, k int) { list[i], list[k] = list[k], list[i] })
	return list
}

// spoil changes an attribute.
func (m maker) spoil(a *api.Attr) {
	switch m.Intn(8) {
	case 0:
		a.Name = m.name("a", 4)
	case 1:
		a.Values = append(a.Values, pick(m, "on", "x"))
	case 2:
		a.Values = nil
	case 3:
		a.Low = m.quantity()
	case 4:
		a.High = m.quantity()
	case 5:
		a.Step = m.quantity()
	case 6:
		a.Start = m.literal()
	case 7:
		a.Fallback = m.literal()
	}
}

func q(tenths int, unit string) api.Quantity { return api.Quantity{Tenths: tenths, Unit: unit} }

func (m maker) quantity() api.Quantity {
	if m.slip() {
		return pick(m, q(1, "C"), q(1, "%"), q(1, "x"), q(1<<40, "%"), q(0, ""), q(-1<<40, "W"))
	}
	if m.chance(2) {
		return q(m.Intn(13)*100-100+pick(m, 0, 0, 0, 1, -1), "%")
	}
	return pick(m, q(m.Intn(30)-7, "kW"), q(1000*(m.Intn(30)-7), "W"), q(1000*m.Intn(25)+pick(m, 0, 1, -1), "W"))
}

func (m maker) literal() api.Literal {
	if m.chance(3) {
		return api.Literal{Quantity: m.quantity()}
	}
	return api.Literal{Name: pick(m, "off", "on", "on", "dim", "m0", "m1", "m2", "away", "here")}
}

// device returns an attribute's reference and a literal that fits, most of the time.
func (m maker) device() (api.Ref, api.Literal) {
	attr := pick(m, "a0", "a0", "a1", "a2")
	literal := api.Literal{Name: pick(m, "off", "on", "dim")}
	if attr == "a1" {
		literal = api.Literal{Quantity: q(100*m.Intn(11), "%")}
	} else if attr == "a2" {
		literal = api.Literal{Quantity: q(5*(m.Intn(6)-1), "kW")}
	}
	if m.slip() {
		literal = m.literal()
	}
	return api.Ref{Device: m.name("d", 3), Attr: attr}, literal
}

func (m maker) atom() api.AtomText {
	a := api.AtomText{Op: api.OpEq + m.Intn(6)}
	switch m.Intn(7) {
	case 0:
		a.Ref, a.Value.Name = api.Ref{Attr: "mode"}, m.name("m", 3)
	case 1:
		a.Ref, a.Value.Name = api.Ref{Attr: "quiet"}, pick(m, "off", "on")
	case 2:
		a.Ref, a.Value.Name = api.Ref{Attr: m.name("p", 2)}, pick(m, "away", "here")
	case 3:
		a.Ref, a.Value.Name = api.Ref{Device: m.name("d", 3), Attr: "a3"}, pick(m, "off", "on")
	default:
		a.Ref, a.Value = m.device()
		if a.Value.Name == "" && a.Op > api.OpNe {
			a.Value.Quantity.Tenths += pick(m, 0, 1, -1, 100000, -100000)
		}
	}
	if m.slip() {
		a.Op = pick(m, 0, 7, -1)
	}
	return a
}

func (m maker) atoms(least, most int) []api.AtomText {
	var list []api.AtomText
	for range least + m.Intn(most-least+1) {
		list = append(list, m.atom())
	}
	if m.slip() {
		for len(list) < 8+m.Intn(2) {
			list = append(list, m.atom())
		}
	}
	if m.slip() {
		return nil
	}
	return list
}

func (m maker) setting() api.Setting {
	ref, value := m.device()
	if m.chance(5) {
		return api.Setting{Ref: api.Ref{Attr: "mode"}, Value: api.Literal{Name: m.name("m", 3)}}
	}
	if m.slip() {
		ref = m.atom().Ref
	}
	return api.Setting{Ref: ref, Value: value}
}

func (m maker) action() api.ActionText {
	a := api.ActionText{Kind: api.ActSet + m.Intn(4)}
	s := m.setting()
	a.Ref, a.Value, a.Timer, a.Duration = s.Ref, s.Value, m.name("t", 2), m.seconds()
	for range m.Intn(4) {
		a.Scenes = append(a.Scenes, m.name("s", 3))
	}
	if m.slip() {
		a.Kind = pick(m, 0, 5, -1)
	}
	return a
}

func (m maker) rule(name string) api.RuleText {
	r := api.RuleText{Name: name, Priority: m.Intn(101), Guard: m.atoms(0, 3), Trigger: m.atom()}
	if m.chance(4) {
		r.Timer = m.name("t", 2)
	}
	if m.slip() {
		r.Priority = pick(m, -1, 101, 1000)
	}
	for range m.Intn(5) {
		r.Actions = append(r.Actions, m.action())
	}
	return r
}

// house makes up a house.
func (m maker) house() api.House {
	h := api.House{Rooms: m.names("r", 2), Persons: m.names("p", 2), Modes: m.names("m", 3), Timers: m.names("t", 2)}
	for _, name := range m.names("k", 2) {
		h.Kinds = append(h.Kinds, api.Kind{Name: name, Attrs: m.attrs()})
	}
	for _, name := range m.names("d", 3) {
		h.Devices = append(h.Devices, api.Device{Name: name, Kind: m.name("k", 2), Room: m.name("r", 2)})
	}
	for range m.Intn(3) {
		h.Quiet = append(h.Quiet, api.Window{From: m.Intn(720), To: 720 + m.Intn(720)})
		if m.slip() {
			h.Quiet[len(h.Quiet)-1] = api.Window{From: m.Intn(3) - 1, To: pick(m, 0, 1440, -1, 1)}
		}
	}
	for _, name := range m.names("s", 3) {
		s := api.Scene{Name: name, Layer: m.Intn(3)}
		if m.slip() {
			s.Layer = pick(m, -1, 100, 101)
		}
		for range m.Intn(4) {
			s.Settings = append(s.Settings, m.setting())
		}
		h.Scenes = append(h.Scenes, s)
	}
	for _, name := range m.names("u", m.Intn(5)) {
		h.Rules = append(h.Rules, m.rule(name))
	}
	for _, name := range m.names("l", m.Intn(3)) {
		h.Laws = append(h.Laws, api.LawText{Name: name, Cond: m.atoms(1, 3), Bound: m.seconds()})
	}
	return h
}
