// Package lexer splits source texts into tokens: see shared/doc/01-lexer.md.
package lexer

import (
	"iter"

	"domicile/api"
)

// The most digits that a number has before its dot, and after it.
const (
	maxWhole    = 9
	maxFraction = 1
)

// Lex returns the tokens of a source text, OK and -1, or the first error and its offset.
func Lex(text string) ([]api.Token, api.Errno, int) {
	if len(text) > api.MaxSource {
		return nil, api.ErrLimit, -1
	}
	var list []api.Token
	for token, err := range tokens(text) {
		// One token too many comes before whatever else is wrong with it.
		if len(list) == api.MaxTokens {
			err = api.ErrLimit
		}
		if err != api.OK {
			return nil, err, token.Offset
		}
		list = append(list, token)
	}
	return list, api.OK, -1
}

// tokens yields the tokens of a text from the left. It ends behind the first error, which it yields with a token of which only the offset is meant.
func tokens(text string) iter.Seq2[api.Token, api.Errno] {
	return func(yield func(api.Token, api.Errno) bool) {
		table := scanners()
		for at := skipGaps(text, 0); at < len(text); {
			token, err := next(table, text, at)
			if !yield(token, err) || err != api.OK {
				return
			}
			at = skipGaps(text, at+len(token.Text))
		}
	}
}

// scanner returns the token that begins at an offset of a text.
type scanner func(text string, at int) (api.Token, api.Errno)

// scanners returns the scanner of each kind of bytes with which tokens begin.
func scanners() map[byteKind]scanner {
	return map[byteKind]scanner{
		letter: scanName,
		digit:  scanNumber,
		symbol: scanSymbol,
	}
}

// next returns the token that begins at an offset, where no gap begins.
func next(table map[byteKind]scanner, text string, at int) (api.Token, api.Errno) {
	scan, ok := table[kindAt(text, at)]
	if !ok {
		return api.Token{Offset: at}, api.ErrChar
	}
	token, err := scan(text, at)
	if err != api.OK {
		return api.Token{Offset: at}, err
	}
	return token, api.OK
}

// scanName returns the name that begins at an offset.
func scanName(text string, at int) (api.Token, api.Errno) {
	end := runEnd(text, at, letter|digit|underscore)
	if end-at > api.MaxName {
		return api.Token{}, api.ErrLimit
	}
	return api.Token{Kind: api.TokName, Text: text[at:end], Offset: at}, api.OK
}

// scanNumber returns the number that begins at an offset. A dot belongs to it only if a digit follows: otherwise it is a symbol.
func scanNumber(text string, at int) (api.Token, api.Errno) {
	dot := runEnd(text, at, digit)
	end := dot
	if dot < len(text) && text[dot] == '.' && kindAt(text, dot+1) == digit {
		end = runEnd(text, dot+1, digit)
	}
	if dot-at > maxWhole || end-dot > 1+maxFraction {
		return api.Token{}, api.ErrNumber
	}
	tenths := 10 * decimal(text[at:dot])
	if end > dot {
		tenths += decimal(text[dot+1 : end])
	}
	return api.Token{Kind: api.TokNumber, Text: text[at:end], Tenths: tenths, Offset: at}, api.OK
}

// decimal returns the value of at most nine digits.
func decimal(digits string) int {
	value := 0
	for i := range len(digits) {
		value = 10*value + int(digits[i]-'0')
	}
	return value
}

// scanSymbol returns the symbol that begins at an offset: the longer one of < and <=, and of > and >=.
func scanSymbol(text string, at int) (api.Token, api.Errno) {
	end := at + 1
	if (text[at] == '<' || text[at] == '>') && end < len(text) && text[end] == '=' {
		end++
	}
	return api.Token{Kind: api.TokSymbol, Text: text[at:end], Offset: at}, api.OK
}
