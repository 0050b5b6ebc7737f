package printer

import (
	"strconv"
	"strings"

	"domicile/api"
)

// operators has the words or the symbol of each operator.
var operators = [...]string{
	api.OpEq: "is",
	api.OpNe: "is not",
	api.OpLt: "<",
	api.OpLe: "<=",
	api.OpGt: ">",
	api.OpGe: ">=",
}

// joined returns the texts of elements with a text between them.
func joined[T any](list []T, between string, text func(T) string) string {
	var b strings.Builder
	for i, element := range list {
		if i > 0 {
			b.WriteString(between)
		}
		b.WriteString(text(element))
	}
	return b.String()
}

// block returns lines in braces, which begin behind what has a block.
func block[T any](list []T, text func(T) string) string {
	return " {\n" + joined(list, "", func(element T) string { return "  " + text(element) + ";\n" }) + "}"
}

// plain returns a text as it is.
func plain(text string) string { return text }

// integerText returns the text of an integer.
func integerText(n int) string { return strconv.Itoa(n) }

// timeText returns the text of a minute of the day.
func timeText(minute int) string {
	hour, rest := minute/60, minute%60
	if rest < 10 {
		return integerText(hour) + ":0" + integerText(rest)
	}
	return integerText(hour) + ":" + integerText(rest)
}

// quantityText returns the text of a quantity.
func quantityText(q api.Quantity) string {
	text, tenths := "", q.Tenths
	if tenths < 0 {
		text, tenths = "-", -tenths
	}
	text += integerText(tenths / 10)
	if tenths%10 != 0 {
		text += "." + integerText(tenths%10)
	}
	if q.Unit == "" || q.Unit == "%" {
		return text + q.Unit
	}
	return text + " " + q.Unit
}

// literalText returns the text of a literal.
func literalText(l api.Literal) string {
	if l.Name != "" {
		return l.Name
	}
	return quantityText(l.Quantity)
}

// refText returns the text of a reference.
func refText(r api.Ref) string {
	if r.Device == "" {
		return r.Attr
	}
	return r.Device + "." + r.Attr
}

// atomText returns the text of a comparison.
func atomText(a api.AtomText) string {
	return refText(a.Ref) + " " + operators[a.Op] + " " + literalText(a.Value)
}

// settingText returns the text of a setting.
func settingText(s api.Setting) string {
	return refText(s.Ref) + " = " + literalText(s.Value)
}

// attrText returns the text of an attribute.
func attrText(a api.Attr) string {
	text := a.Name + ": " + valuesText(a) + flag(a.Sensor, "sensor") + flag(a.Private, "private") + flag(a.Shown, "shown") +
		" start " + literalText(a.Start)
	if a.Fallback != a.Start {
		text += " fallback " + literalText(a.Fallback)
	}
	return text
}

// valuesText returns the text of the values of an attribute.
func valuesText(a api.Attr) string {
	if len(a.Values) > 0 {
		return joined(a.Values, " or ", plain)
	}
	return quantityText(a.Low) + " to " + quantityText(a.High) + " step " + quantityText(a.Step)
}

// flag returns the word of a flag, if it is set, behind a blank.
func flag(set bool, word string) string {
	if !set {
		return ""
	}
	return " " + word
}

// actionText returns the text of an action.
func actionText(a api.ActionText) string {
	switch a.Kind {
	case api.ActStart:
		return "start " + a.Timer + " " + quantityText(a.Duration)
	case api.ActStop:
		return "stop " + a.Timer
	case api.ActScene:
		return "scene " + joined(a.Scenes, " over ", plain)
	}
	return settingText(settingOf(a))
}
