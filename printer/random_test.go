package printer_test

import (
	"math/rand"
	"slices"

	"domicile/api"
)

// maker makes up printable trees.
type maker struct{ *rand.Rand }

// chance reports true once in n times.
func (m maker) chance(n int) bool { return m.Intn(n) == 0 }

// pick returns one of some numbers.
func (m maker) pick(numbers ...int) int { return numbers[m.Intn(len(numbers))] }

// list returns at least some made-up elements.
func list[T any](m maker, least int, element func() T) []T {
	var l []T
	for len(l) < least || m.chance(2) {
		l = append(l, element())
	}
	return l
}

func (m maker) name() string {
	names := []string{"a", "Z", "hall", "lamp_1", "x9__", "abcdefghijklmnop", "Room", "starts", "C", "min"}
	return names[m.Intn(len(names))]
}

func (m maker) quantity() api.Quantity {
	q := api.Quantity{Tenths: m.pick(0, 1, -1, -5, 9, 10, 15, -10, 215, 1000, 9999999999, -9999999999, m.Intn(2000)-1000, m.Intn(20000000)-10000000)}
	switch m.Intn(3) {
	case 0:
		q.Unit = "%"
	case 1:
		q.Unit = m.name()
	}
	return q
}

func (m maker) literal() api.Literal {
	if m.chance(2) {
		return api.Literal{Name: m.name()}
	}
	return api.Literal{Quantity: m.quantity()}
}

func (m maker) ref() api.Ref {
	switch m.Intn(5) {
	case 0:
		return api.Ref{Attr: "mode"}
	case 1:
		return api.Ref{Attr: "quiet"}
	case 2:
		return api.Ref{Attr: m.name()}
	}
	return api.Ref{Device: m.name(), Attr: m.name()}
}

func (m maker) atom() api.AtomText {
	return api.AtomText{Ref: m.ref(), Op: api.OpEq + m.Intn(6), Value: m.literal()}
}

func (m maker) action() api.ActionText {
	a := api.ActionText{Kind: api.ActSet + m.Intn(4)}
	switch a.Kind {
	case api.ActSet:
		a.Ref, a.Value = m.ref(), m.literal()
	case api.ActStart:
		a.Timer, a.Duration = m.name(), m.quantity()
	case api.ActStop:
		a.Timer = m.name()
	case api.ActScene:
		a.Scenes = list(m, 1, m.name)
	}
	return a
}

func (m maker) attr() api.Attr {
	a := api.Attr{Name: m.name(), Sensor: m.chance(2), Private: m.chance(2), Shown: m.chance(2), Start: m.literal()}
	if m.chance(2) {
		a.Values = list(m, 2, m.name)
	} else {
		a.Low, a.High, a.Step = m.quantity(), m.quantity(), m.quantity()
	}
	a.Fallback = a.Start
	if m.chance(2) {
		a.Fallback = m.literal()
	}
	return a
}

func (m maker) kind() api.Kind {
	return api.Kind{Name: m.name(), Attrs: list(m, 0, m.attr)}
}

func (m maker) device() api.Device {
	return api.Device{Name: m.name(), Kind: m.name(), Room: m.name()}
}

func (m maker) window() api.Window {
	return api.Window{From: m.pick(0, 1439, 60, 59, m.Intn(1440)), To: m.Intn(1440)}
}

func (m maker) setting() api.Setting { return api.Setting{Ref: m.ref(), Value: m.literal()} }

func (m maker) scene() api.Scene {
	return api.Scene{Name: m.name(), Layer: m.pick(0, 1, 1000000, m.Intn(1000)), Settings: list(m, 0, m.setting)}
}

func (m maker) rule() api.RuleText {
	r := api.RuleText{Name: m.name(), Priority: m.pick(0, 7, 1000000), Guard: list(m, 0, m.atom), Actions: list(m, 1, m.action)}
	if m.chance(2) {
		r.Timer = m.name()
	} else {
		r.Trigger = m.atom()
	}
	return r
}

func (m maker) law() api.LawText {
	return api.LawText{Name: m.name(), Cond: list(m, 1, m.atom), Bound: m.quantity()}
}

func (m maker) house() api.House {
	return api.House{
		Rooms: list(m, 0, m.name), Kinds: list(m, 0, m.kind), Devices: list(m, 0, m.device),
		Persons: list(m, 0, m.name), Modes: list(m, 0, m.name), Timers: list(m, 0, m.name), Quiet: list(m, 0, m.window),
		Scenes: list(m, 0, m.scene), Rules: list(m, 0, m.rule), Laws: list(m, 0, m.law),
	}
}

// both returns a house with the lists of two houses, one after the other.
func both(a, b api.House) api.House {
	return api.House{
		Rooms: slices.Concat(a.Rooms, b.Rooms), Kinds: slices.Concat(a.Kinds, b.Kinds), Devices: slices.Concat(a.Devices, b.Devices),
		Persons: slices.Concat(a.Persons, b.Persons), Modes: slices.Concat(a.Modes, b.Modes), Timers: slices.Concat(a.Timers, b.Timers),
		Quiet: slices.Concat(a.Quiet, b.Quiet), Scenes: slices.Concat(a.Scenes, b.Scenes), Rules: slices.Concat(a.Rules, b.Rules), Laws: slices.Concat(a.Laws, b.Laws),
	}
}
