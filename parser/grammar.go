package parser

import "domicile/api"

// house = { item } .
func (p *parser) house() api.House {
	var h api.House
	for len(p.rest) > 0 {
		p.item(&h)
	}
	return h
}

// item parses an item and adds it to a house. Every item begins with a key word of its own.
func (p *parser) item(h *api.House) {
	switch {
	case p.take("room"):
		h.Rooms = append(h.Rooms, closed(p, p.name))
	case p.take("kind"):
		h.Kinds = append(h.Kinds, p.kind())
	case p.take("device"):
		h.Devices = append(h.Devices, closed(p, p.device))
	case p.take("person"):
		h.Persons = append(h.Persons, closed(p, p.name))
	case p.take("mode"):
		h.Modes = append(h.Modes, closed(p, p.name))
	case p.take("timer"):
		h.Timers = append(h.Timers, closed(p, p.name))
	case p.take("quiet"):
		h.Quiet = append(h.Quiet, closed(p, p.window))
	case p.take("scene"):
		h.Scenes = append(h.Scenes, p.scene())
	case p.take("rule"):
		h.Rules = append(h.Rules, closed(p, p.rule))
	case p.take("law"):
		h.Laws = append(h.Laws, closed(p, p.law))
	default:
		p.fail()
	}
}

// kind = NAME "{" { attr } "}" .
func (p *parser) kind() api.Kind {
	return api.Kind{Name: p.name(), Attrs: braced(p, p.attr)}
}

// device = NAME ":" NAME "in" NAME .
func (p *parser) device() api.Device {
	var d api.Device
	d.Name = p.name()
	p.expect(":")
	d.Kind = p.name()
	p.expect("in")
	d.Room = p.name()
	return d
}

// window = time "to" time .
func (p *parser) window() api.Window {
	var w api.Window
	w.From = p.time()
	p.expect("to")
	w.To = p.time()
	return w
}

// time = INT ":" INT .
func (p *parser) time() int {
	hour := p.integer(23)
	p.expect(":")
	return 60*hour + p.integer(59)
}

// scene = NAME "layer" INT "{" { setting } "}" .
func (p *parser) scene() api.Scene {
	var s api.Scene
	s.Name = p.name()
	p.expect("layer")
	s.Layer = p.integer(maxInteger)
	s.Settings = braced(p, p.setting)
	return s
}

// setting = ref "=" literal ";" .
func (p *parser) setting() api.Setting {
	return closed(p, p.assignment)
}

// assignment = ref "=" literal .
func (p *parser) assignment() api.Setting {
	var s api.Setting
	s.Ref = p.ref()
	p.expect("=")
	s.Value = p.literal()
	return s
}

// attr = NAME ":" values flags "start" literal [ "fallback" literal ] ";" .
func (p *parser) attr() api.Attr {
	var a api.Attr
	a.Name = p.name()
	p.expect(":")
	p.values(&a)
	a.Sensor = p.take("sensor")
	a.Private = p.take("private")
	a.Shown = p.take("shown")
	p.expect("start")
	a.Start = p.literal()
	a.Fallback = a.Start
	if p.take("fallback") {
		a.Fallback = p.literal()
	}
	p.expect(";")
	return a
}

// values = NAME "or" NAME { "or" NAME } | quantity "to" quantity "step" quantity .
func (p *parser) values(a *api.Attr) {
	if p.seesName() {
		first := p.name()
		p.expect("or")
		a.Values = append([]string{first}, separated(p, p.name, "or")...)
		return
	}
	a.Low = p.quantity()
	p.expect("to")
	a.High = p.quantity()
	p.expect("step")
	a.Step = p.quantity()
}

// rule = NAME "priority" INT "when" trigger [ "if" guard ] "do" actions .
func (p *parser) rule() api.RuleText {
	var r api.RuleText
	r.Name = p.name()
	p.expect("priority")
	r.Priority = p.integer(maxInteger)
	p.expect("when")
	if p.take("timer") {
		r.Timer = p.name()
	} else {
		r.Trigger = p.atom()
	}
	if p.take("if") {
		r.Guard = separated(p, p.atom, "and")
	}
	p.expect("do")
	r.Actions = separated(p, p.action, ",")
	return r
}

// law = NAME "never" atom { "and" atom } "for" quantity .
func (p *parser) law() api.LawText {
	var l api.LawText
	l.Name = p.name()
	p.expect("never")
	l.Cond = separated(p, p.atom, "and")
	p.expect("for")
	l.Bound = p.quantity()
	return l
}

// ref = "mode" | "quiet" | NAME [ "." NAME ] .
func (p *parser) ref() api.Ref {
	for _, word := range []string{"mode", "quiet"} {
		if p.take(word) {
			return api.Ref{Attr: word}
		}
	}
	first := p.name()
	if p.take(".") {
		return api.Ref{Device: first, Attr: p.name()}
	}
	return api.Ref{Attr: first}
}

// atom = ref operator literal .
func (p *parser) atom() api.AtomText {
	return api.AtomText{Ref: p.ref(), Op: p.operator(), Value: p.literal()}
}

// operator = "is" [ "not" ] | "<" | "<=" | ">" | ">=" .
func (p *parser) operator() int {
	switch {
	case p.take("is"):
		if p.take("not") {
			return api.OpNe
		}
		return api.OpEq
	case p.take("<"):
		return api.OpLt
	case p.take("<="):
		return api.OpLe
	case p.take(">"):
		return api.OpGt
	}
	p.expect(">=")
	return api.OpGe
}

// action = ref "=" literal | "start" NAME quantity | "stop" NAME | "scene" NAME { "over" NAME } .
func (p *parser) action() api.ActionText {
	switch {
	case p.take("start"):
		return api.ActionText{Kind: api.ActStart, Timer: p.name(), Duration: p.quantity()}
	case p.take("stop"):
		return api.ActionText{Kind: api.ActStop, Timer: p.name()}
	case p.take("scene"):
		return api.ActionText{Kind: api.ActScene, Scenes: separated(p, p.name, "over")}
	}
	s := p.assignment()
	return api.ActionText{Kind: api.ActSet, Ref: s.Ref, Value: s.Value}
}

// literal = NAME | quantity .
func (p *parser) literal() api.Literal {
	if p.seesName() {
		return api.Literal{Name: p.name()}
	}
	return api.Literal{Quantity: p.quantity()}
}

// quantity = [ "-" ] NUMBER [ NAME | "%" ] .
func (p *parser) quantity() api.Quantity {
	minus := p.take("-")
	q := api.Quantity{Tenths: p.next(isNumber).Tenths}
	if minus {
		q.Tenths = -q.Tenths
	}
	if p.seesName() {
		q.Unit = p.name()
	} else if p.take("%") {
		q.Unit = "%"
	}
	return q
}
