package lexer_test

import (
	"math/rand"
	"regexp"
	"strconv"
	"strings"

	"domicile/api"
)

// The reference says what the chapter says, in regular expressions: it shares no code with the lexer.
var (
	gapForm    = regexp.MustCompile(`^(?:[ \t\n]|#[^\n]*)*`)
	nameForm   = regexp.MustCompile(`^[A-Za-z][A-Za-z0-9_]*`)
	numberForm = regexp.MustCompile(`^([0-9]+)(?:\.([0-9]+))?`)
	symbolForm = regexp.MustCompile(`^(?:<=|>=|[{};:,.=<>%-])`)
)

// reference returns what Lex has to return.
func reference(text string) ([]api.Token, api.Errno, int) {
	if len(text) > 20000 {
		return nil, api.ErrLimit, -1
	}
	var list []api.Token
	for at := 0; ; {
		at += len(gapForm.FindString(text[at:]))
		if at == len(text) {
			return list, api.OK, -1
		}
		token, err := referenceToken(text[at:])
		if len(list) == 6000 {
			err = api.ErrLimit
		}
		if err != api.OK {
			return nil, err, at
		}
		token.Offset = at
		list = append(list, token)
		at += len(token.Text)
	}
}

// referenceToken returns the token with which a text begins.
func referenceToken(text string) (api.Token, api.Errno) {
	if name := nameForm.FindString(text); name != "" {
		if len(name) > 16 {
			return api.Token{Text: name}, api.ErrLimit
		}
		return api.Token{Kind: api.TokName, Text: name}, api.OK
	}
	if parts := numberForm.FindStringSubmatch(text); parts != nil {
		if len(parts[1]) > 9 || len(parts[2]) > 1 {
			return api.Token{Text: parts[0]}, api.ErrNumber
		}
		return api.Token{Kind: api.TokNumber, Text: parts[0], Tenths: referenceTenths(parts[0])}, api.OK
	}
	if symbol := symbolForm.FindString(text); symbol != "" {
		return api.Token{Kind: api.TokSymbol, Text: symbol}, api.OK
	}
	return api.Token{Text: text[:1]}, api.ErrChar
}

// referenceTenths returns the value of a number in tenths: its digits without the dot, and a 0 if it has no fraction.
func referenceTenths(number string) int {
	digits := strings.Replace(number, ".", "", 1)
	if digits == number {
		digits += "0"
	}
	value, err := strconv.Atoi(digits)
	if err != nil {
		panic(err)
	}
	return value
}

// randomText returns a text of at most some pieces; one piece in wrong is one that an error begins with or may, none if wrong is 0.
func randomText(r *rand.Rand, pieces, wrong int) string {
	var b strings.Builder
	for range r.Intn(pieces + 1) {
		if wrong > 0 && r.Intn(wrong) == 0 {
			b.WriteString(pick(r, "$", "\r", "\x00", "_", "é", "\xff", "!", "1.25", "1234567890", "12345678901.23", "abcdefghijklmnopq", strings.Repeat("Z_9", 9)))
		} else {
			b.WriteString(randomPiece(r))
		}
	}
	return b.String()
}

// randomPiece returns a token or gap that has no error where a gap stands before and behind it; it can only stand there by chance.
func randomPiece(r *rand.Rand) string {
	switch r.Intn(6) {
	case 0, 1:
		return pick(r, " ", "\t", "\n", "  ", "\n\n", "#\n", "# note $ 1.25 é\n", "##\t\x00\xff\r\n")
	case 2:
		return pick(r, "{", "}", ";", ":", ",", ".", "=", "<", "<=", ">", ">=", "-", "%") + pick(r, "", " ")
	case 3:
		return pick(r, "a", "Zz", "a_", "x_1", "min", "C", "W9__", "abcdefghijklmnop") + " "
	case 4:
		return pick(r, "0", "7", "21.5", "0.0", "00.9", "123456789", "999999999.9", "22:30", "1.2.3", "5min", "1.") + " "
	}
	return " " + pick(r, "rule", "room", "1.5", "t>=21.5C;", "a.b", "-3", "50%", "<=<>==")
}

// pick returns one of some texts.
func pick(r *rand.Rand, texts ...string) string { return texts[r.Intn(len(texts))] }
