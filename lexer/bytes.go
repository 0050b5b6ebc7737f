package lexer

import "strings"

// byteKind says what a byte can be part of.
type byteKind uint8

// The kinds of bytes are bits, so that several of them are one set. A byte without a kind belongs to comments only.
const (
	letter byteKind = 1 << iota
	digit
	underscore
	symbol
	space
	hash
)

// byteKinds has the kind of each byte below 128.
var byteKinds = [128]byteKind{
	'\t': space, '\n': space, ' ': space, '#': hash,
	'{': symbol, '}': symbol, ';': symbol, ':': symbol, ',': symbol, '.': symbol,
	'=': symbol, '<': symbol, '>': symbol, '-': symbol, '%': symbol,
	'0': digit, '1': digit, '2': digit, '3': digit, '4': digit,
	'5': digit, '6': digit, '7': digit, '8': digit, '9': digit,
	'_': underscore,
	'A': letter, 'B': letter, 'C': letter, 'D': letter, 'E': letter, 'F': letter, 'G': letter,
	'H': letter, 'I': letter, 'J': letter, 'K': letter, 'L': letter, 'M': letter, 'N': letter,
	'O': letter, 'P': letter, 'Q': letter, 'R': letter, 'S': letter, 'T': letter, 'U': letter,
	'V': letter, 'W': letter, 'X': letter, 'Y': letter, 'Z': letter,
	'a': letter, 'b': letter, 'c': letter, 'd': letter, 'e': letter, 'f': letter, 'g': letter,
	'h': letter, 'i': letter, 'j': letter, 'k': letter, 'l': letter, 'm': letter, 'n': letter,
	'o': letter, 'p': letter, 'q': letter, 'r': letter, 's': letter, 't': letter, 'u': letter,
	'v': letter, 'w': letter, 'x': letter, 'y': letter, 'z': letter,
}

// kindAt returns the kind of the byte at an offset, and none behind the end of the text.
func kindAt(text string, at int) byteKind {
	if at >= len(text) || text[at] >= 128 {
		return 0
	}
	return byteKinds[text[at]]
}

// runEnd returns the offset behind the bytes of some kinds that stand at an offset.
func runEnd(text string, at int, kinds byteKind) int {
	for kindAt(text, at)&kinds != 0 {
		at++
	}
	return at
}

// skipGaps returns the offset of the first byte from an offset on that belongs to no gap, or the length of the text.
func skipGaps(text string, at int) int {
	for {
		at = runEnd(text, at, space)
		if kindAt(text, at) != hash {
			return at
		}
		at = lineEnd(text, at)
	}
}

// lineEnd returns the offset of the next line feed from an offset on, or the length of the text.
func lineEnd(text string, at int) int {
	length := strings.IndexByte(text[at:], '\n')
	if length < 0 {
		return len(text)
	}
	return at + length
}
