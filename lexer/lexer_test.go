package lexer_test

import (
	"math/rand"
	"slices"
	"strings"
	"testing"

	"domicile/api"
	"domicile/lexer"
)

// name, number and symbol return tokens.
func name(text string, at int) api.Token {
	return api.Token{Kind: api.TokName, Text: text, Offset: at}
}

func number(text string, tenths, at int) api.Token {
	return api.Token{Kind: api.TokNumber, Text: text, Tenths: tenths, Offset: at}
}

func symbol(text string, at int) api.Token {
	return api.Token{Kind: api.TokSymbol, Text: text, Offset: at}
}

// wantTokens checks that a text has some tokens and no error.
func wantTokens(t *testing.T, text string, want []api.Token) {
	t.Helper()
	got, err, at := lexer.Lex(text)
	if err != api.OK || at != -1 || !slices.Equal(got, want) {
		t.Errorf("Lex(%.60q) = %.200v, %v, %v, want %.200v, 0, -1", text, got, err, at, want)
	}
}

// wantError checks that a text has an error at an offset, and that no tokens are returned with it.
func wantError(t *testing.T, text string, wantErr api.Errno, wantAt int) {
	t.Helper()
	got, err, at := lexer.Lex(text)
	if err != wantErr || at != wantAt || len(got) != 0 {
		t.Errorf("Lex(%.60q) = %d tokens, %v, %v, want none, %v, %v", text, len(got), err, at, wantErr, wantAt)
	}
}

// wantReference checks that Lex returns what the reference returns.
func wantReference(t *testing.T, text string) {
	t.Helper()
	if tokens, err, at := reference(text); err != api.OK {
		wantError(t, text, err, at)
	} else {
		wantTokens(t, text, tokens)
	}
}

// mustLex returns the tokens of a text that has no error.
func mustLex(t *testing.T, text string) []api.Token {
	t.Helper()
	tokens, err, at := lexer.Lex(text)
	if err != api.OK || at != -1 {
		t.Fatalf("Lex(%.60q): error %v at %v", text, err, at)
	}
	return tokens
}

// P1.1: the examples of the chapter, and tokens that touch each other.
func TestTokens(t *testing.T) {
	for _, test := range []struct {
		text string
		want []api.Token
	}{
		{"", nil},
		{" \t\n \n", nil},
		{"#", nil},
		{"# only a comment", nil},
		{"# one\n\t# two\n", nil},
		{"#\x00\r\xff é $ 1.25 abcdefghijklmnopqrst # again", nil},
		{"t >= 21.5 C;", []api.Token{name("t", 0), symbol(">=", 2), number("21.5", 215, 5), name("C", 10), symbol(";", 11)}},
		{"22:30", []api.Token{number("22", 220, 0), symbol(":", 2), number("30", 300, 3)}},
		{"a.b 1.2.3", []api.Token{name("a", 0), symbol(".", 1), name("b", 2), number("1.2", 12, 4), symbol(".", 7), number("3", 30, 8)}},
		{"5min # note", []api.Token{number("5", 50, 0), name("min", 1)}},
		{"a#b\nc", []api.Token{name("a", 0), name("c", 4)}},
		{"1#2\n.5", []api.Token{number("1", 10, 0), symbol(".", 4), number("5", 50, 5)}},
		{"1.", []api.Token{number("1", 10, 0), symbol(".", 1)}},
		{".5", []api.Token{symbol(".", 0), number("5", 50, 1)}},
		{"1 .5", []api.Token{number("1", 10, 0), symbol(".", 2), number("5", 50, 3)}},
		{"1. 5", []api.Token{number("1", 10, 0), symbol(".", 1), number("5", 50, 3)}},
		{"1..2", []api.Token{number("1", 10, 0), symbol(".", 1), symbol(".", 2), number("2", 20, 3)}},
		{"1.a", []api.Token{number("1", 10, 0), symbol(".", 1), name("a", 2)}},
		{"1.2.34", []api.Token{number("1.2", 12, 0), symbol(".", 3), number("34", 340, 4)}},
		{"a1.2", []api.Token{name("a1", 0), symbol(".", 2), number("2", 20, 3)}},
		{"A_z0__Z9", []api.Token{name("A_z0__Z9", 0)}},
		{"a-1", []api.Token{name("a", 0), symbol("-", 1), number("1", 10, 2)}},
		{"{};:,.=<>-%", []api.Token{symbol("{", 0), symbol("}", 1), symbol(";", 2), symbol(":", 3), symbol(",", 4), symbol(".", 5), symbol("=", 6), symbol("<", 7), symbol(">", 8), symbol("-", 9), symbol("%", 10)}},
		{"<=<>==", []api.Token{symbol("<=", 0), symbol("<", 2), symbol(">=", 3), symbol("=", 5)}},
		{"=<=>", []api.Token{symbol("=", 0), symbol("<=", 1), symbol(">", 3)}},
		{"< = > =", []api.Token{symbol("<", 0), symbol("=", 2), symbol(">", 4), symbol("=", 6)}},
		{"<#\n=", []api.Token{symbol("<", 0), symbol("=", 3)}},
		{"abcdefghijklmnop", []api.Token{name("abcdefghijklmnop", 0)}},
		{"123456789abcdefghijklmnop", []api.Token{number("123456789", 1234567890, 0), name("abcdefghijklmnop", 9)}},
	} {
		wantTokens(t, test.text, test.want)
	}
}

// P1.1: each error at its offset; of several errors the one that is found first from the left.
func TestErrors(t *testing.T) {
	for _, test := range []struct {
		text string
		err  api.Errno
		at   int
	}{
		{"a $", api.ErrChar, 2},
		{"_a", api.ErrChar, 0},
		{"a _", api.ErrChar, 2},
		{"1_", api.ErrChar, 1},
		{"\r\n", api.ErrChar, 0},
		{"a\r\n", api.ErrChar, 1},
		{"\v", api.ErrChar, 0},
		{"a \x00", api.ErrChar, 2},
		{"é", api.ErrChar, 0},
		{"aé", api.ErrChar, 1},
		{"\u00a0", api.ErrChar, 0},
		{"# é\n\xff", api.ErrChar, 5},
		{"a ! b", api.ErrChar, 2},
		{"abcdefghijklmnopq", api.ErrLimit, 0},
		{"x abcdefghijklmnop_", api.ErrLimit, 2},
		{"x a234567890123456789", api.ErrLimit, 2},
		{"1abcdefghijklmnopq", api.ErrLimit, 1},
		{"1.25", api.ErrNumber, 0},
		{"a.1.00", api.ErrNumber, 2},
		{"1234567890", api.ErrNumber, 0},
		{"0000000000", api.ErrNumber, 0},
		{" 1234567890.1", api.ErrNumber, 1},
		{"123456789.12", api.ErrNumber, 0},
		{"12345678901234567890123.5", api.ErrNumber, 0},
		{"1.2.3.45", api.ErrNumber, 4},
		{"1.25 $", api.ErrNumber, 0},
		{"$ 1.25", api.ErrChar, 0},
		{"1.25abcdefghijklmnopq", api.ErrNumber, 0},
		{"abcdefghijklmnopq 1.25 $", api.ErrLimit, 0},
		{"$ abcdefghijklmnopq", api.ErrChar, 0},
		{"abcdefghijklmnopq$", api.ErrLimit, 0},
		{"1234567890$", api.ErrNumber, 0},
		{"ok 12345678901 abcdefghijklmnopq", api.ErrNumber, 3},
	} {
		wantError(t, test.text, test.err, test.at)
	}
}

// P1.1: each byte, each pair of bytes, and all short texts of some bytes.
func TestShortTexts(t *testing.T) {
	for first := range 256 {
		wantReference(t, string([]byte{byte(first)}))
		for second := range 256 {
			wantReference(t, string([]byte{byte(first), byte(second)}))
		}
	}
	const some = "a0._<=# \n$"
	for i := range 100000 {
		text := make([]byte, 5)
		for k := range text {
			text[k] = some[i%10]
			i /= 10
		}
		wantReference(t, string(text))
	}
}

// P1.1: texts of exactly 20000 bytes, and of more.
func TestMaxSource(t *testing.T) {
	wantTokens(t, strings.Repeat(" ", 20000), nil)
	wantTokens(t, "#"+strings.Repeat("$", 19999), nil)
	wantTokens(t, strings.Repeat("\n", 19999)+"a", []api.Token{name("a", 19999)})
	wantTokens(t, strings.Repeat("\n", 19997)+"1.5", []api.Token{number("1.5", 15, 19997)})
	wantTokens(t, strings.Repeat("\n", 19998)+"<=", []api.Token{symbol("<=", 19998)})
	wantError(t, strings.Repeat(" ", 19999)+"$", api.ErrChar, 19999)
	wantError(t, strings.Repeat(" ", 19996)+"1.25", api.ErrNumber, 19996)
	wantError(t, strings.Repeat(" ", 19983)+"abcdefghijklmnopq", api.ErrLimit, 19983)
	wantError(t, strings.Repeat("a", 20000), api.ErrLimit, 0)
	wantError(t, strings.Repeat("9", 20000), api.ErrNumber, 0)
	wantError(t, "1."+strings.Repeat("9", 19998), api.ErrNumber, 0)
	wantError(t, strings.Repeat(";", 20000), api.ErrLimit, 6000)

	wantError(t, strings.Repeat(" ", 20001), api.ErrLimit, -1)
	wantError(t, "#"+strings.Repeat(" ", 20000), api.ErrLimit, -1)
	wantError(t, "$"+strings.Repeat(" ", 20000), api.ErrLimit, -1)
	wantError(t, strings.Repeat("9", 20001), api.ErrLimit, -1)
	wantError(t, strings.Repeat(";", 20001), api.ErrLimit, -1)
	wantError(t, strings.Repeat(" ", 1<<20), api.ErrLimit, -1)
}

// P1.1: what comes behind the 6000th token is an error, unless it is a gap.
func TestMaxTokens(t *testing.T) {
	for _, full := range []string{strings.Repeat("a ", 6000), strings.Repeat("-", 6000), strings.Repeat("1 ", 6000), strings.Repeat("<=\n", 6000)} {
		for _, gap := range []string{"", " ", "\n\t ", "#", "# $ 1.25", "# note\n", "#\n#\n\n"} {
			if got := mustLex(t, full+gap); len(got) != 6000 {
				t.Errorf("%d tokens, want 6000", len(got))
			}
		}
		for _, gap := range []string{"", " ", "# note\n"} {
			for _, more := range []string{"$", "_", "é", "\x00", ";", "<=", "{ $", "1.25", "1234567890", "7", "abcdefghijklmnopq"} {
				wantError(t, full+gap+more, api.ErrLimit, len(full+gap))
			}
		}
	}
	almost := strings.Repeat("a ", 5999)
	wantError(t, almost+"$", api.ErrChar, len(almost))
	wantError(t, almost+"1.25", api.ErrNumber, len(almost))
	wantError(t, almost+"abcdefghijklmnopq", api.ErrLimit, len(almost))
	wantError(t, almost+"b $", api.ErrLimit, len(almost)+2)
	wantError(t, almost+"b c", api.ErrLimit, len(almost)+2)
	wantError(t, "$ "+almost+"b c", api.ErrChar, 0)
	wantError(t, almost+"1.25 b c", api.ErrNumber, len(almost))
	if got := mustLex(t, almost+"b"); len(got) != 6000 {
		t.Errorf("%d tokens, want 6000", len(got))
	}
}

// P1.1: random texts have what the reference says.
func TestRandomTexts(t *testing.T) {
	r := rand.New(rand.NewSource(1))
	for range 20000 {
		wantReference(t, randomText(r, 40, 0))
		wantReference(t, randomText(r, 40, 30))
	}
	for range 100 {
		wantReference(t, randomText(r, 9000, 0))
		wantReference(t, randomText(r, 9000, 9000))
	}
}

// P1: Lex ends and does not panic, whatever the bytes are.
func FuzzLex(f *testing.F) {
	for _, text := range []string{"", "t >= 21.5 C;", "a $", "1.25", "# \xff", "1.", "<=", "a\r\n_"} {
		f.Add(text)
	}
	f.Fuzz(func(t *testing.T, text string) { wantReference(t, text) })
}
