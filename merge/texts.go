package merge

import (
	"strings"

	"domicile/api"
)

func compareNames(x, y *api.Edit) int { return strings.Compare(x.Rule, y.Rule) }

func areRules(l []api.Edit) bool {
	if len(l) > api.MaxRules {
		return false
	}
	last := ""
	for _, e := range l {
		// The empty name, which is not permitted, is not greater than any.
		if e.Rule <= last || len(e.Rule) > api.MaxName || !within(len(e.Text), 1, api.MaxSource) {
			return false
		}
		last = e.Rule
	}
	return true
}

// nameOf returns the name of the rule of a pair.
func nameOf(x, y *api.Edit) string {
	if x == nil {
		return y.Rule
	}
	return x.Rule
}

// textOf returns the text of a rule, which is empty if there is none.
func textOf(e *api.Edit) string {
	if e == nil {
		return ""
	}
	return e.Text
}

// mergedText returns the text that results from one text and two edited ones, and false if they are in conflict.
func mergedText(base, a, b string) (string, bool) {
	switch {
	case a == b, b == base:
		return a, true
	case a == base:
		return b, true
	}
	return base, false
}
