package parser_test

import (
	"math/rand"
	"reflect"
	"regexp"
	"slices"
	"strings"
	"testing"

	"domicile/api"
	"domicile/lexer"
	"domicile/parser"
)

// tokenIndex returns the index of the token at an offset; the number of tokens if none stands there.
func tokenIndex(t *testing.T, text string, at int) int {
	t.Helper()
	tokens, err, _ := lexer.Lex(text)
	if err != api.OK {
		t.Fatalf("%q has the error %v", text, err)
	}
	if i := slices.IndexFunc(tokens, func(token api.Token) bool { return token.Offset == at }); i >= 0 {
		return i
	}
	return len(tokens)
}

// P3.2: gaps do not matter.
func TestGaps(t *testing.T) {
	r := rand.New(rand.NewSource(4))
	for range 5000 {
		_, words := randomHouse(r, 3)
		if r.Intn(2) == 0 {
			words = spoiled(r, words)
		}
		plain := strings.Join(words, " ")
		gaps := strings.Join(words, []string{"\n", " \t", " # $ room\n"}[r.Intn(3)])
		h, err, at := parser.Parse(plain)
		other, otherErr, otherAt := parser.Parse(gaps)
		if err != otherErr || !reflect.DeepEqual(h, other) {
			t.Errorf("%q: %v, and with other gaps %v", plain, err, otherErr)
		}
		if err == api.ErrSyntax && tokenIndex(t, plain, at) != tokenIndex(t, gaps, otherAt) {
			t.Errorf("%q: error at %v, and with other gaps at %v", plain, at, otherAt)
		}
	}
}

// P3.3: before a wrong token there is no error, or the end; behind it nothing matters.
func TestFirstError(t *testing.T) {
	r := rand.New(rand.NewSource(5))
	for range 10000 {
		_, words := randomHouse(r, 3)
		text := strings.Join(spoiled(r, words), " ")
		_, err, at := parser.Parse(text)
		if err != api.ErrSyntax {
			continue
		}
		if _, before, _ := parser.Parse(text[:at]); before != api.OK && before != api.ErrEnd {
			t.Errorf("%q has the error %v", text[:at], before)
		}
		end := at + len(lexed(t, text[at:])[0].Text)
		wantError(t, text[:end], api.ErrSyntax, at)
		wantError(t, text[:end]+" room a; }", api.ErrSyntax, at)
	}
}

// lexed returns the tokens of a text.
func lexed(t *testing.T, text string) []api.Token {
	t.Helper()
	tokens, err, _ := lexer.Lex(text)
	if err != api.OK {
		t.Fatalf("%q has the error %v", text, err)
	}
	return tokens
}

// both returns a tree with the lists of two trees, one after the other.
func both(a, b api.House) api.House {
	return api.House{
		Rooms: slices.Concat(a.Rooms, b.Rooms), Kinds: slices.Concat(a.Kinds, b.Kinds), Devices: slices.Concat(a.Devices, b.Devices),
		Persons: slices.Concat(a.Persons, b.Persons), Modes: slices.Concat(a.Modes, b.Modes), Timers: slices.Concat(a.Timers, b.Timers),
		Quiet: slices.Concat(a.Quiet, b.Quiet), Scenes: slices.Concat(a.Scenes, b.Scenes), Rules: slices.Concat(a.Rules, b.Rules), Laws: slices.Concat(a.Laws, b.Laws),
	}
}

// P3.4: two texts are a text, and their lists are joined.
func TestJoining(t *testing.T) {
	r := rand.New(rand.NewSource(6))
	for range 3000 {
		a, wordsA := randomHouse(r, 4)
		b, wordsB := randomHouse(r, 4)
		wantHouse(t, joined(r, wordsA)+"\n"+joined(r, wordsB), both(a, b))
	}
}

// nameForms are items with a name at each place where one can stand, marked by N.
var nameForms = []string{
	"room N;", "kind N { }", "kind k { N: a or b start a; }", "kind k { x: N or b start a; }", "kind k { x: a or N start a; }", "kind k { x: a or b or N start a; }", "kind k { x: a or b start N; }", "kind k { x: a or b start a fallback N; }",
	"kind k { x: 1 N to 2 step 1 start 1; }", "device N: k in r;", "device d: N in r;", "device d: k in N;", "person N;", "mode N;", "timer N;",
	"scene N layer 1 { }", "scene s layer 1 { N.a = b; }", "scene s layer 1 { a.N = b; }", "scene s layer 1 { a.b = N; }",
	"rule N priority 1 when a is b do c = d;", "rule r priority 1 when timer N do c = d;", "rule r priority 1 when N.a is b do c = d;", "rule r priority 1 when a is N do c = d;", "rule r priority 1 when a is b if a < N do c = d;",
	"rule r priority 1 when a is b do start N 5 s;", "rule r priority 1 when a is b do start t 5 N;", "rule r priority 1 when a is b do stop N;", "rule r priority 1 when a is b do scene N;", "rule r priority 1 when a is b do scene c over N;",
	"law N never a is b for 1 s;", "law l never a is b and c.N is d for 1 s;", "law l never a is b for 1 N;",
}

// P3.5: no key word is a name, and every other name is one.
func TestKeyWords(t *testing.T) {
	for _, form := range nameForms {
		place := regexp.MustCompile(`\bN\b`).FindStringIndex(form)[0]
		for _, key := range keyWords {
			spoiled := form[:place] + key + form[place+1:]
			wantReference(t, spoiled)
			if _, err, at := parser.Parse(spoiled); err != api.ErrSyntax || at < place {
				t.Errorf("%s: error %v at %v, want %v at %v or later", spoiled, err, at, api.ErrSyntax, place)
			}
			for _, name := range []string{key + "s", "x" + key, strings.ToUpper(key), key + "_", key[:len(key)-1] + "Q"} {
				if _, err, at := parser.Parse(form[:place] + name + form[place+1:]); err != api.OK {
					t.Errorf("%s with the name %s: error %v at %v", form, name, err, at)
				}
			}
		}
	}
}

// P3.5: where a reference stands, mode and quiet are right, and the other key words are not.
func TestKeyWordsAsRefs(t *testing.T) {
	for _, form := range []string{"scene s layer 1 { N = b; }", "rule r priority 1 when N is b do c = d;", "rule r priority 1 when a is b if a is b and N < 1 do c = d;", "rule r priority 1 when a is b do N = d;", "law l never N is b for 1 s;"} {
		place := strings.Index(form, "N")
		for _, key := range keyWords {
			text := form[:place] + key + form[place+1:]
			wantReference(t, text)
			if _, err, _ := parser.Parse(text); (err == api.OK) != (key == "mode" || key == "quiet") {
				t.Errorf("%s: %v", text, err)
			}
		}
	}
}

// isBeginning reports whether the first elements of a list are another list.
func isBeginning[T any](part, list []T) bool {
	return len(part) <= len(list) && (len(part) == 0 || reflect.DeepEqual(part, list[:len(part)]))
}

// P3.6: each beginning of a text, up to the end of a token, is a text or ends too early; its items are the first ones.
func TestBeginnings(t *testing.T) {
	r := rand.New(rand.NewSource(7))
	for range 1500 {
		h, words := randomHouse(r, 3)
		for i := range len(words) + 1 {
			text := strings.Join(words[:i], " ")
			got, err, at := parser.Parse(text)
			if err == api.ErrEnd {
				wantError(t, text, api.ErrEnd, len(text))
				continue
			}
			if err != api.OK || at != -1 {
				t.Errorf("%q: error %v at %v", text, err, at)
			}
			if !isBeginning(got.Rooms, h.Rooms) || !isBeginning(got.Kinds, h.Kinds) || !isBeginning(got.Devices, h.Devices) || !isBeginning(got.Persons, h.Persons) || !isBeginning(got.Modes, h.Modes) ||
				!isBeginning(got.Timers, h.Timers) || !isBeginning(got.Quiet, h.Quiet) || !isBeginning(got.Scenes, h.Scenes) || !isBeginning(got.Rules, h.Rules) || !isBeginning(got.Laws, h.Laws) {
				t.Errorf("%q has other items than the whole text", text)
			}
		}
	}
}

// walk calls a function with every field of a tree, with the name of the field or of the list that it is in.
func walk(name string, v reflect.Value, each func(name string, v reflect.Value)) {
	switch v.Kind() {
	case reflect.Struct:
		for i := range v.NumField() {
			walk(v.Type().Field(i).Name, v.Field(i), each)
		}
	case reflect.Slice:
		each(name, v)
		for i := range v.Len() {
			walk(name, v.Index(i), each)
		}
	default:
		each(name, v)
	}
}

// P3.7: the names in a tree are names, its numbers are in their ranges, and lists have their elements.
func TestTrees(t *testing.T) {
	name := regexp.MustCompile(`^[A-Za-z][A-Za-z0-9_]{0,15}$`)
	r := rand.New(rand.NewSource(8))
	for range 3000 {
		_, words := randomHouse(r, 4)
		text := joined(r, spoiled(r, words))
		h, err, _ := parser.Parse(text)
		if err != api.OK {
			continue
		}
		walk("House", reflect.ValueOf(h), func(field string, v reflect.Value) {
			switch v.Kind() {
			case reflect.String:
				if s := v.String(); s != "" && s != "%" && (!name.MatchString(s) || slices.Contains(keyWords, s) && !(field == "Attr" && (s == "mode" || s == "quiet"))) {
					t.Errorf("%q: the %s is %q", text, field, s)
				}
			case reflect.Int:
				low, high := ranges(field)
				if n := int(v.Int()); n < low || n > high {
					t.Errorf("%q: the %s is %v", text, field, n)
				}
			case reflect.Slice:
				if v.Len() == 0 && (field == "Actions" || field == "Cond") || v.Len() == 1 && field == "Values" {
					t.Errorf("%q: the list %s has %d elements", text, field, v.Len())
				}
			}
		})
	}
}

// ranges returns the range of the numbers in a field.
func ranges(field string) (int, int) {
	switch field {
	case "Tenths":
		return -9999999999, 9999999999
	case "From", "To":
		return 0, 1439
	case "Op":
		return 0, api.OpGe
	case "Kind":
		return api.ActSet, api.ActScene
	}
	return 0, 1000000
}

// P3.8: with an error, the tree is zero and the offset is in the text, or -1 if the text is too long.
func TestErrorResults(t *testing.T) {
	r := rand.New(rand.NewSource(9))
	for range 5000 {
		_, words := randomHouse(r, 3)
		text := joined(r, spoiled(r, words))
		if r.Intn(5) == 0 {
			text += []string{"$", " 1.25", " abcdefghijklmnopq", strings.Repeat(" ", 20000)}[r.Intn(4)]
		}
		h, err, at := parser.Parse(text)
		if err == api.OK {
			continue
		}
		if !reflect.DeepEqual(h, api.House{}) || (at == -1) != (len(text) > api.MaxSource) || at < -1 || at > len(text) {
			t.Errorf("%.300q: %+v, %v, %v", text, h, err, at)
		}
	}
}

// P3: equal texts have equal results, and a result that is changed does not change a later one.
func TestIndependence(t *testing.T) {
	r := rand.New(rand.NewSource(10))
	for range 500 {
		h, words := randomHouse(r, 4)
		text := joined(r, words)
		first, _, _ := parser.Parse(text)
		walk("House", reflect.ValueOf(&first).Elem(), func(_ string, v reflect.Value) { v.SetZero() })
		wantHouse(t, strings.Clone(text), h)
	}
}
