package parser_test

import (
	"math/rand"
	"slices"
	"strconv"
	"strings"

	"domicile/api"
)

// writer makes up trees and writes their tokens. It writes a tree in the way in which the grammar derives it, and shares no code with the parser.
type writer struct {
	r     *rand.Rand
	words []string
}

// put writes tokens.
func (w *writer) put(words ...string) { w.words = append(w.words, words...) }

// chance reports true once in n times.
func (w *writer) chance(n int) bool { return w.r.Intn(n) == 0 }

// some returns a number from low to high.
func (w *writer) some(low, high int) int { return low + w.r.Intn(high-low+1) }

// name writes a name and returns it.
func (w *writer) name() string {
	names := []string{"a", "b", "hall", "lamp_1", "C", "min", "x9__", "abcdefghijklmnop", "Rule", "ROOM", "starts", "i", "of", "off", "on", "layers", "notx", "is_", "M"}
	name := names[w.r.Intn(len(names))]
	w.put(name)
	return name
}

// names writes names with a word between them.
func (w *writer) names(least int, between string) []string {
	list := []string{w.name()}
	for len(list) < least || w.chance(2) {
		w.put(between)
		list = append(list, w.name())
	}
	return list
}

// integer writes an integer and returns its value.
func (w *writer) integer(most int) int {
	n := []int{0, 1, most, w.r.Intn(most + 1)}[w.r.Intn(4)]
	w.put(strings.Repeat("0", w.r.Intn(2)) + strconv.Itoa(n))
	return n
}

// quantity writes a quantity.
func (w *writer) quantity() api.Quantity {
	sign := 1
	if w.chance(3) {
		w.put("-")
		sign = -1
	}
	units := []int{0, 7, 21, 999999999, w.r.Intn(1000000000)}[w.r.Intn(5)]
	text := strconv.Itoa(units)
	tenth := 0
	if w.chance(2) {
		tenth = w.r.Intn(10)
		text += "." + strconv.Itoa(tenth)
	}
	w.put(text)
	q := api.Quantity{Tenths: sign * (10*units + tenth)}
	switch w.r.Intn(3) {
	case 0:
		q.Unit = w.name()
	case 1:
		q.Unit = "%"
		w.put("%")
	}
	return q
}

// literal writes a literal.
func (w *writer) literal() api.Literal {
	if w.chance(2) {
		return api.Literal{Name: w.name()}
	}
	return api.Literal{Quantity: w.quantity()}
}

// ref writes a reference.
func (w *writer) ref() api.Ref {
	switch w.r.Intn(4) {
	case 0:
		special := []string{"mode", "quiet"}[w.r.Intn(2)]
		w.put(special)
		return api.Ref{Attr: special}
	case 1:
		return api.Ref{Attr: w.name()}
	}
	device := w.name()
	w.put(".")
	return api.Ref{Device: device, Attr: w.name()}
}

// atom writes a comparison.
func (w *writer) atom() api.AtomText {
	var a api.AtomText
	a.Ref = w.ref()
	a.Op = w.some(api.OpEq, api.OpGe)
	w.put(strings.Fields(map[int]string{api.OpEq: "is", api.OpNe: "is not", api.OpLt: "<", api.OpLe: "<=", api.OpGt: ">", api.OpGe: ">="}[a.Op])...)
	a.Value = w.literal()
	return a
}

// atoms writes comparisons with "and" between them.
func (w *writer) atoms() []api.AtomText {
	list := []api.AtomText{w.atom()}
	for w.chance(2) {
		w.put("and")
		list = append(list, w.atom())
	}
	return list
}

// action writes an action.
func (w *writer) action() api.ActionText {
	a := api.ActionText{Kind: w.some(api.ActSet, api.ActScene)}
	switch a.Kind {
	case api.ActSet:
		a.Ref = w.ref()
		w.put("=")
		a.Value = w.literal()
	case api.ActStart:
		w.put("start")
		a.Timer = w.name()
		a.Duration = w.quantity()
	case api.ActStop:
		w.put("stop")
		a.Timer = w.name()
	case api.ActScene:
		w.put("scene")
		a.Scenes = w.names(1, "over")
	}
	return a
}

// attr writes an attribute.
func (w *writer) attr() api.Attr {
	var a api.Attr
	a.Name = w.name()
	w.put(":")
	if w.chance(2) {
		a.Values = w.names(2, "or")
	} else {
		a.Low = w.quantity()
		w.put("to")
		a.High = w.quantity()
		w.put("step")
		a.Step = w.quantity()
	}
	a.Sensor, a.Private, a.Shown = w.flag("sensor"), w.flag("private"), w.flag("shown")
	w.put("start")
	a.Start = w.literal()
	a.Fallback = a.Start
	if w.flag("fallback") {
		a.Fallback = w.literal()
	}
	w.put(";")
	return a
}

// flag writes a word or not, and reports whether it did.
func (w *writer) flag(word string) bool {
	if w.chance(2) {
		w.put(word)
		return true
	}
	return false
}

// time writes a time of the day.
func (w *writer) time() int {
	hour := w.integer(23)
	w.put(":")
	return 60*hour + w.integer(59)
}

// rule writes a rule.
func (w *writer) rule() api.RuleText {
	var r api.RuleText
	w.put("rule")
	r.Name = w.name()
	w.put("priority")
	r.Priority = w.integer(1000000)
	w.put("when")
	if w.flag("timer") {
		r.Timer = w.name()
	} else {
		r.Trigger = w.atom()
	}
	if w.flag("if") {
		r.Guard = w.atoms()
	}
	w.put("do")
	r.Actions = []api.ActionText{w.action()}
	for w.chance(2) {
		w.put(",")
		r.Actions = append(r.Actions, w.action())
	}
	w.put(";")
	return r
}

// law writes a law.
func (w *writer) law() api.LawText {
	var l api.LawText
	w.put("law")
	l.Name = w.name()
	w.put("never")
	l.Cond = w.atoms()
	w.put("for")
	l.Bound = w.quantity()
	w.put(";")
	return l
}

// kind writes a kind.
func (w *writer) kind() api.Kind {
	var k api.Kind
	w.put("kind")
	k.Name = w.name()
	w.put("{")
	for w.chance(2) {
		k.Attrs = append(k.Attrs, w.attr())
	}
	w.put("}")
	return k
}

// scene writes a scene.
func (w *writer) scene() api.Scene {
	var s api.Scene
	w.put("scene")
	s.Name = w.name()
	w.put("layer")
	s.Layer = w.integer(1000000)
	w.put("{")
	for w.chance(2) {
		ref := w.ref()
		w.put("=")
		s.Settings = append(s.Settings, api.Setting{Ref: ref, Value: w.literal()})
		w.put(";")
	}
	w.put("}")
	return s
}

// simple writes an item of a key word and a name.
func (w *writer) simple(key string) string {
	w.put(key)
	name := w.name()
	w.put(";")
	return name
}

// item writes an item and adds it to a house.
func (w *writer) item(h *api.House) {
	switch w.r.Intn(10) {
	case 0:
		h.Rooms = append(h.Rooms, w.simple("room"))
	case 1:
		h.Kinds = append(h.Kinds, w.kind())
	case 2:
		w.put("device")
		d := api.Device{Name: w.name()}
		w.put(":")
		d.Kind = w.name()
		w.put("in")
		d.Room = w.name()
		w.put(";")
		h.Devices = append(h.Devices, d)
	case 3:
		h.Persons = append(h.Persons, w.simple("person"))
	case 4:
		h.Modes = append(h.Modes, w.simple("mode"))
	case 5:
		h.Timers = append(h.Timers, w.simple("timer"))
	case 6:
		w.put("quiet")
		q := api.Window{From: w.time()}
		w.put("to")
		q.To = w.time()
		w.put(";")
		h.Quiet = append(h.Quiet, q)
	case 7:
		h.Scenes = append(h.Scenes, w.scene())
	case 8:
		h.Rules = append(h.Rules, w.rule())
	case 9:
		h.Laws = append(h.Laws, w.law())
	}
}

// randomHouse returns a tree and its tokens.
func randomHouse(r *rand.Rand, items int) (api.House, []string) {
	w := &writer{r: r}
	var h api.House
	for range r.Intn(items + 1) {
		w.item(&h)
	}
	return h, w.words
}

// joined returns a text of tokens with random gaps between them, none only where the tokens stay apart.
func joined(r *rand.Rand, words []string) string {
	gaps := []string{" ", " ", "\n", "\t", "  ", " # note ; {\n", "#\n#\n", "\n\n\t"}
	var b strings.Builder
	for i, word := range words {
		if i == 0 || !apart(words[i-1], word) || r.Intn(2) == 0 {
			b.WriteString(gaps[r.Intn(len(gaps))])
		}
		b.WriteString(word)
	}
	b.WriteString([]string{"", " ", "\n", "# end"}[r.Intn(4)])
	return b.String()
}

// apart reports whether two tokens stay two if there is no gap between them: one is a symbol that the other one does not prolong.
func apart(a, b string) bool {
	const symbols = "{};:,-%"
	return strings.Contains(symbols, a) || strings.Contains(symbols, b) || b == "." || a == "."
}

// spoiled returns tokens of which some are left out, replaced, repeated or put in.
func spoiled(r *rand.Rand, words []string) []string {
	words = slices.Clone(words)
	for range 1 + r.Intn(2) {
		at := r.Intn(len(words) + 1)
		other := anyWord(r, words)
		switch {
		case r.Intn(4) == 0:
			words = slices.Insert(words, at, other)
		case at == len(words):
			words = words[:max(0, at-1-r.Intn(3))]
		case r.Intn(2) == 0:
			words = slices.Delete(words, at, at+1)
		default:
			words[at] = other
		}
	}
	return words
}

// anyWord returns a token.
func anyWord(r *rand.Rand, words []string) string {
	others := append(slices.Clone(keyWords), "{", "}", ";", ":", ",", ".", "=", "<", "<=", ">", ">=", "-", "%", "a", "b", "5", "0.5", "24", "60", "59", "23", "1000000", "1000001", "7.0", "999999999.9")
	if len(words) > 0 && r.Intn(3) == 0 {
		return words[r.Intn(len(words))]
	}
	return others[r.Intn(len(others))]
}
