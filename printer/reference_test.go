package printer_test

import (
	"fmt"
	"strings"

	"domicile/api"
)

// refHouse returns the canonical text of a house, in another way than the printer: each line is a list of words and symbols, and the blanks between them follow the rule of the chapter.
func refHouse(h api.House) string {
	var lines [][]string
	line := func(words ...[]string) { lines = append(lines, flat(words...)) }
	names := func(key string, list []string) {
		for _, name := range list {
			line(of(key, name, ";"))
		}
	}
	names("room", h.Rooms)
	for _, k := range h.Kinds {
		line(of("kind", k.Name, "{"))
		for _, a := range k.Attrs {
			line(of(indent), refAttr(a))
		}
		line(of("}"))
	}
	for _, d := range h.Devices {
		line(of("device", d.Name, ":", d.Kind, "in", d.Room, ";"))
	}
	names("person", h.Persons)
	names("mode", h.Modes)
	names("timer", h.Timers)
	for _, w := range h.Quiet {
		line(of("quiet", refTime(w.From), "to", refTime(w.To), ";"))
	}
	for _, s := range h.Scenes {
		line(of("scene", s.Name, "layer", fmt.Sprint(s.Layer), "{"))
		for _, e := range s.Settings {
			line(of(indent), refRef(e.Ref), of("="), refLiteral(e.Value), of(";"))
		}
		line(of("}"))
	}
	for _, r := range h.Rules {
		line(refRule(r))
	}
	for _, l := range h.Laws {
		line(of("law", l.Name, "never"), refAtoms(l.Cond), of("for"), refQuantity(l.Bound), of(";"))
	}
	var b strings.Builder
	for _, words := range lines {
		b.WriteString(spaced(words) + "\n")
	}
	return b.String()
}

// indent stands for the two blanks with which a line begins.
const indent = "\t"

// of and flat make lists of words.
func of(words ...string) []string { return words }

func flat(lists ...[]string) []string {
	var all []string
	for _, list := range lists {
		all = append(all, list...)
	}
	return all
}

// spaced returns words and symbols with the blanks that stand between them.
func spaced(words []string) string {
	text := ""
	for i, word := range words {
		switch {
		case word == indent:
			text += "  "
			continue
		case i == 0 || words[i-1] == indent || words[i-1] == "." || words[i-1] == "-":
		case word == ";" || word == "," || word == ":" || word == "." || word == "%":
		default:
			text += " "
		}
		text += word
	}
	return text
}

// refTime returns the word of a minute of the day.
func refTime(minute int) string { return fmt.Sprintf("%d:%02d", minute/60, minute%60) }

// refRef returns the words of a reference.
func refRef(r api.Ref) []string {
	if r.Device == "" {
		return of(r.Attr)
	}
	return of(r.Device, ".", r.Attr)
}

// refQuantity returns the words of a quantity.
func refQuantity(q api.Quantity) []string {
	var words []string
	digits := strings.TrimPrefix(fmt.Sprintf("%02d", q.Tenths), "-")
	if q.Tenths < 0 {
		words = of("-")
		digits = fmt.Sprintf("%02s", digits)
	}
	number := digits[:len(digits)-1] + "." + digits[len(digits)-1:]
	words = append(words, strings.TrimSuffix(number, ".0"))
	if q.Unit != "" {
		words = append(words, q.Unit)
	}
	return words
}

// refLiteral returns the words of a literal.
func refLiteral(l api.Literal) []string {
	if l.Name != "" {
		return of(l.Name)
	}
	return refQuantity(l.Quantity)
}

// refAtoms returns the words of comparisons.
func refAtoms(list []api.AtomText) []string {
	var words []string
	for i, a := range list {
		if i > 0 {
			words = append(words, "and")
		}
		operator, ok := map[int]string{api.OpEq: "is", api.OpNe: "is not", api.OpLt: "<", api.OpLe: "<=", api.OpGt: ">", api.OpGe: ">="}[a.Op]
		if !ok {
			operator = "?"
		}
		words = append(words, flat(refRef(a.Ref), strings.Fields(operator), refLiteral(a.Value))...)
	}
	return words
}

// refAttr returns the words of an attribute.
func refAttr(a api.Attr) []string {
	words := of(a.Name, ":")
	if len(a.Values) > 0 {
		words = append(words, strings.Fields(strings.Join(a.Values, " or "))...)
	} else {
		words = append(words, flat(refQuantity(a.Low), of("to"), refQuantity(a.High), of("step"), refQuantity(a.Step))...)
	}
	for _, flag := range []struct {
		set  bool
		word string
	}{{a.Sensor, "sensor"}, {a.Private, "private"}, {a.Shown, "shown"}} {
		if flag.set {
			words = append(words, flag.word)
		}
	}
	words = append(append(words, "start"), refLiteral(a.Start)...)
	if a.Fallback != a.Start {
		words = append(append(words, "fallback"), refLiteral(a.Fallback)...)
	}
	return append(words, ";")
}

// refRule returns the words of a rule.
func refRule(r api.RuleText) []string {
	words := of("rule", r.Name, "priority", fmt.Sprint(r.Priority), "when")
	if r.Timer != "" {
		words = append(words, "timer", r.Timer)
	} else {
		words = append(words, refAtoms([]api.AtomText{r.Trigger})...)
	}
	if len(r.Guard) > 0 {
		words = append(append(words, "if"), refAtoms(r.Guard)...)
	}
	for i, a := range r.Actions {
		words = append(words, map[bool]string{true: "do", false: ","}[i == 0])
		switch a.Kind {
		case api.ActSet:
			words = append(words, flat(refRef(a.Ref), of("="), refLiteral(a.Value))...)
		case api.ActStart:
			words = append(words, flat(of("start", a.Timer), refQuantity(a.Duration))...)
		case api.ActStop:
			words = append(words, "stop", a.Timer)
		case api.ActScene:
			words = append(append(words, "scene"), strings.Fields(strings.Join(a.Scenes, " over "))...)
		}
	}
	return append(words, ";")
}
