package parser

import (
	"slices"
	"strings"

	"domicile/api"
)

const (
	// tenths is how many tenths 1 has.
	tenths = 10
	// maxInteger bounds the integers of a text.
	maxInteger = 1000000
)

// isKey reports whether a text is a key word.
func isKey(text string) bool {
	return slices.Contains([]string{
		"room", "kind", "device", "in", "person", "mode", "timer", "quiet", "to", "scene", "layer",
		"rule", "priority", "when", "if", "and", "do", "law", "never", "for", "or", "step", "sensor",
		"private", "shown", "start", "fallback", "is", "not", "stop", "over",
	}, text)
}

// isName reports whether a token is a name that is no key word.
func isName(t api.Token) bool {
	return t.Kind == api.TokName && !isKey(t.Text)
}

// isNumber reports whether a token is a number.
func isNumber(t api.Token) bool { return t.Kind == api.TokNumber }

// isInteger reports whether a token is a number without a dot.
func isInteger(t api.Token) bool {
	return isNumber(t) && !strings.Contains(t.Text, ".")
}
