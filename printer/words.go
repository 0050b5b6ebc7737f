package printer

import (
	"slices"

	"domicile/api"
)

// isKey reports whether a text is a key word. (The parser has the same list; it does not export it.)
func isKey(text string) bool {
	return slices.Contains([]string{
		"room", "kind", "device", "in", "person", "mode", "timer", "quiet", "to", "scene", "layer",
		"rule", "priority", "when", "if", "and", "do", "law", "never", "for", "or", "step", "sensor",
		"private", "shown", "start", "fallback", "is", "not", "stop", "over",
	}, text)
}

// isName reports whether a text is a name that is no key word.
func isName(text string) bool {
	if len(text) == 0 || len(text) > api.MaxName || !isLetter(text[0]) {
		return false
	}
	for i := range len(text) {
		if !isLetter(text[i]) && !isDigit(text[i]) && text[i] != '_' {
			return false
		}
	}
	return !isKey(text)
}

// isLetter reports whether a byte is a letter.
func isLetter(b byte) bool { return 'A' <= b && b <= 'Z' || 'a' <= b && b <= 'z' }

// isDigit reports whether a byte is a digit.
func isDigit(b byte) bool { return '0' <= b && b <= '9' }
