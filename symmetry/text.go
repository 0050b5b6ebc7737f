package symmetry

import (
	"slices"
	"strconv"
	"strings"

	"domicile/api"
)

// text returns a text that has all of some numbers.
func text(numbers ...int) string {
	var t []byte
	for _, n := range numbers {
		t = strconv.AppendInt(t, int64(n), 10)
		t = append(t, ' ')
	}
	return string(t)
}

// texts returns the texts of all rules, and then of all laws: those that are alike have the same text.
func texts(m api.Model) []string {
	return append(mapped(m.Rules, ruleText), mapped(m.Laws, lawText)...)
}

// ruleText returns the text of a rule.
func ruleText(r api.Rule) string {
	parts := []string{"rule", text(r.Priority, r.Timer, r.Trigger.Var, r.Trigger.Op, r.Trigger.Value), atomsText(r.Guard)}
	parts = append(parts, mapped(r.Sets, func(s api.Set) string { return text(s.Var, s.Value) })...)
	parts = append(parts, "starts")
	parts = append(parts, mapped(r.Starts, func(s api.Start) string { return text(s.Timer, s.Seconds) })...)
	return strings.Join(parts, ";")
}

// lawText returns the text of a law.
func lawText(l api.Law) string {
	return strings.Join([]string{"law", text(l.Bound), atomsText(l.Cond)}, ";")
}

// atomsText returns the text of comparisons, whose order does not matter.
func atomsText(list []api.Atom) string {
	texts := mapped(list, func(a api.Atom) string { return text(a.Var, a.Op, a.Value) })
	slices.Sort(texts)
	return strings.Join(texts, ",")
}
