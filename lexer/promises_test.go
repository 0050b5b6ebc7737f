package lexer_test

import (
	"math/rand"
	"slices"
	"strconv"
	"strings"
	"testing"

	"domicile/api"
	"domicile/lexer"
)

// validTexts returns texts without an error: some that are chosen, and many random ones.
func validTexts() []string {
	list := []string{"", " ", "#", "a", "1.", "1.5", "<", "<=", "a # b", "a # b\n", "t >= 21.5 C;", "22:30", "a.b 1.2.3", strings.Repeat("a\n", 6000), strings.Repeat("abc", 5) + " # $"}
	r := rand.New(rand.NewSource(2))
	for len(list) < 3000 {
		if text := randomText(r, 30, 0); isValid(text) {
			list = append(list, text)
		}
	}
	for len(list) < 3030 {
		if text := randomText(r, 5000, 0); isValid(text) {
			list = append(list, text)
		}
	}
	return list
}

// isValid reports whether a text has no error.
func isValid(text string) bool {
	_, err, _ := reference(text)
	return err == api.OK
}

// wrongTexts returns texts with an error that has an offset.
func wrongTexts() []string {
	full := strings.Repeat("a ", 6000)
	list := []string{"$", "a $ b", "1.25", " 1234567890", "x abcdefghijklmnopq y", "# $\n\r", full + "$", full + "# $\n\nb", full + "1.25", full + "abcdefghijklmnopq"}
	r := rand.New(rand.NewSource(3))
	for len(list) < 3000 {
		if text := randomText(r, 30, 10); !isValid(text) {
			list = append(list, text)
		}
	}
	return list
}

// moved returns tokens whose offsets are changed by a function.
func moved(list []api.Token, offset func(int) int) []api.Token {
	var result []api.Token
	for _, token := range list {
		token.Offset = offset(token.Offset)
		result = append(result, token)
	}
	return result
}

// by returns a function that adds a number.
func by(n int) func(int) int { return func(at int) int { return at + n } }

// P1.2: tokens stand at their offsets, in order; everything else is gaps.
func TestCover(t *testing.T) {
	for _, text := range validTexts() {
		end := 0
		for _, token := range mustLex(t, text) {
			if token.Text == "" || token.Offset < end || !strings.HasPrefix(text[token.Offset:], token.Text) {
				t.Fatalf("%q: the token %v does not stand there", text, token)
			}
			wantGap(t, text[end:token.Offset])
			end = token.Offset + len(token.Text)
		}
		wantGap(t, text[end:])
	}
}

// wantGap checks that a text consists of gaps.
func wantGap(t *testing.T, text string) {
	t.Helper()
	if gapForm.FindString(text) != text {
		t.Errorf("%q is no gap", text)
	}
}

// P1.3: the texts of tokens have the same tokens again.
func TestAgain(t *testing.T) {
	for _, text := range validTexts() {
		var words []string
		var want []api.Token
		at := 0
		for _, token := range mustLex(t, text) {
			token.Offset = at
			at += len(token.Text) + 1
			words = append(words, token.Text)
			want = append(want, token)
		}
		if again := strings.Join(words, " "); len(again) <= api.MaxSource {
			wantTokens(t, again, want)
		}
	}
}

// P1.4: two texts with a line feed between them have the tokens of both.
func TestJoining(t *testing.T) {
	list := validTexts()
	list = append(list, "<", "=", "1", ".5", "1.", "5", "a", "b", "# open")
	for i, first := range list {
		for _, second := range []string{list[(7*i+1)%len(list)], list[len(list)-1-i], first, "=", ".5", "5", "b"} {
			text := first + "\n" + second
			want := slices.Concat(mustLex(t, first), moved(mustLex(t, second), by(len(first)+1)))
			if len(text) <= api.MaxSource && len(want) <= api.MaxTokens {
				wantTokens(t, text, want)
			}
		}
	}
}

// P1.4, where there is an error: that of the first text, or that of the second one, moved.
func TestJoiningErrors(t *testing.T) {
	for i, wrong := range wrongTexts()[:500] {
		_, err, at := reference(wrong)
		good := []string{"a", "1.", "# open", "<", " "}[i%5]
		if len(wrong) < 2000 {
			wantError(t, good+"\n"+wrong, err, len(good)+1+at)
		}
		wantError(t, wrong+"\n"+good, err, at)
	}
}

// P1.5: before an error there is none, and nothing behind it changes it.
func TestFirstError(t *testing.T) {
	for _, text := range wrongTexts() {
		_, err, at := reference(text)
		wantError(t, text, err, at)
		before, _, _ := reference(text[:at])
		wantTokens(t, text[:at], before)
		token, _ := referenceToken(text[at:])
		end := at + len(token.Text)
		for _, behind := range []string{"", " ", "$", "a", "_", "1", ".", ".5", "#", "\n1.25", " abcdefghijklmnopq", "\xff"} {
			wantError(t, text[:end]+behind, err, at)
		}
		wantError(t, text[:end]+strings.Repeat(" ", api.MaxSource+1-end), api.ErrLimit, -1)
	}
}

// P1.6: the value of a number is that of its digits.
func TestValues(t *testing.T) {
	for _, whole := range []string{"0", "1", "9", "00", "07", "10", "21", "99", "000000000", "000000001", "100000000", "123456789", "987654321", "999999999"} {
		wantValue(t, whole)
		for fraction := range 10 {
			wantValue(t, whole+"."+strconv.Itoa(fraction))
		}
	}
	wantTokens(t, "999999999.9", []api.Token{number("999999999.9", 9999999999, 0)})
	wantTokens(t, "000000000.0", []api.Token{number("000000000.0", 0, 0)})
	for _, text := range validTexts() {
		for _, token := range mustLex(t, text) {
			if token.Kind != api.TokNumber && token.Tenths != 0 {
				t.Errorf("%v is no number and has a value", token)
			}
			if token.Tenths < 0 || token.Tenths > 9999999999 {
				t.Errorf("%v has a value out of its range", token)
			}
		}
	}
}

// wantValue checks the value of a text that is a number.
func wantValue(t *testing.T, text string) {
	t.Helper()
	value, err := strconv.ParseFloat(text, 64)
	if err != nil {
		t.Fatal(err)
	}
	wantTokens(t, text, []api.Token{number(text, int(value*10+0.5), 0)})
}

// P1.7: gaps at the beginning and at the end, and comments at the ends of lines, change offsets only.
func TestGaps(t *testing.T) {
	for _, text := range append(validTexts(), wrongTexts()...) {
		want, wantErr, wantAt := reference(text)
		for _, gap := range []string{" ", "\t", "\n", "# $ 1.25\n", " \n\t# é\n#\n "} {
			wantChanged(t, gap+text, want, wantErr, wantAt, by(len(gap)))
		}
		for _, gap := range []string{" ", "\t", "\n", "# $ 1.25", " \n\t# é\n#\n "} {
			wantChanged(t, text+gap, want, wantErr, wantAt, by(0))
		}
		const note = "# note"
		noted := strings.ReplaceAll(text, "\n", note+"\n") + note
		wantChanged(t, noted, want, wantErr, wantAt, func(at int) int { return at + len(note)*strings.Count(text[:at], "\n") })
	}
}

// wantChanged checks that a text has some tokens or an error, with changed offsets, unless it is too long.
func wantChanged(t *testing.T, text string, want []api.Token, wantErr api.Errno, wantAt int, offset func(int) int) {
	t.Helper()
	switch {
	case len(text) > api.MaxSource:
		wantError(t, text, api.ErrLimit, -1)
	case wantErr != api.OK:
		wantError(t, text, wantErr, offset(wantAt))
	default:
		wantTokens(t, text, moved(want, offset))
	}
}

// P3: equal texts have equal results, and a result that is changed does not change a later one.
func TestIndependence(t *testing.T) {
	for _, text := range append(validTexts()[:200], wrongTexts()[:200]...) {
		first, err, at := lexer.Lex(text)
		kept := slices.Clone(first)
		clear(first)
		again, againErr, againAt := lexer.Lex(strings.Clone(text))
		if !slices.Equal(again, kept) || againErr != err || againAt != at {
			t.Errorf("%q: %v, %v, %v, and then %v, %v, %v", text, kept, err, at, again, againErr, againAt)
		}
	}
}
