package parser_test

import (
	"math/rand"
	"reflect"
	"strings"
	"testing"

	"domicile/api"
	"domicile/lexer"
	"domicile/parser"
)

// wantHouse checks that a text has a tree and no error.
func wantHouse(t *testing.T, text string, want api.House) {
	t.Helper()
	got, err, at := parser.Parse(text)
	if err != api.OK || at != -1 || !reflect.DeepEqual(got, want) {
		t.Errorf("Parse(%.300q) = %+v, %v, %v, want %+v, 0, -1", text, got, err, at, want)
	}
}

// wantError checks that a text has an error at an offset, and that the tree is the zero value.
func wantError(t *testing.T, text string, wantErr api.Errno, wantAt int) {
	t.Helper()
	got, err, at := parser.Parse(text)
	if err != wantErr || at != wantAt || !reflect.DeepEqual(got, api.House{}) {
		t.Errorf("Parse(%.300q) = %+v, %v, %v, want the zero tree, %v, %v", text, got, err, at, wantErr, wantAt)
	}
}

// wantReference checks that a text has the error that the grammar says.
func wantReference(t *testing.T, text string) {
	t.Helper()
	if err, at := refError(text); err != api.OK {
		wantError(t, text, err, at)
	} else if _, err, at := parser.Parse(text); err != api.OK || at != -1 {
		t.Errorf("Parse(%.300q): error %v at %v, want none", text, err, at)
	}
}

// called and measured return literals, tenths a quantity, ref a reference, atom a comparison.
func called(name string) api.Literal { return api.Literal{Name: name} }
func measured(n int, unit string) api.Literal {
	return api.Literal{Quantity: tenths(n, unit)}
}
func tenths(n int, unit string) api.Quantity { return api.Quantity{Tenths: n, Unit: unit} }
func ref(device, attr string) api.Ref        { return api.Ref{Device: device, Attr: attr} }
func atom(r api.Ref, op int, v api.Literal) api.AtomText {
	return api.AtomText{Ref: r, Op: op, Value: v}
}

// P3.1: the trees of the items, one by one.
func TestItems(t *testing.T) {
	on, off := called("on"), called("off")
	for _, test := range []struct {
		text string
		want api.House
	}{
		{"", api.House{}},
		{" # nothing\n", api.House{}},
		{"room hall; quiet 22:00 to 6:30;", api.House{Rooms: []string{"hall"}, Quiet: []api.Window{{From: 1320, To: 390}}}},
		{"room a; room b; room a;", api.House{Rooms: []string{"a", "b", "a"}}},
		{"person p; mode m; timer t; person q;", api.House{Persons: []string{"p", "q"}, Modes: []string{"m"}, Timers: []string{"t"}}},
		{"device l : lamp in hall ;", api.House{Devices: []api.Device{{Name: "l", Kind: "lamp", Room: "hall"}}}},
		{"quiet 0:0 to 23:59; quiet 09:5 to 9:05;", api.House{Quiet: []api.Window{{From: 0, To: 1439}, {From: 545, To: 545}}}},
		{"kind k { }", api.House{Kinds: []api.Kind{{Name: "k"}}}},
		{"kind lamp{power:off or on start off;}", api.House{Kinds: []api.Kind{{Name: "lamp", Attrs: []api.Attr{
			{Name: "power", Values: []string{"off", "on"}, Start: off, Fallback: off}}}}}},
		{"kind k { a: x or y or z sensor private shown start y fallback z; b: -5.5 C to 30 C step 0.5 C shown start 20 fallback -1 %; }", api.House{Kinds: []api.Kind{{Name: "k", Attrs: []api.Attr{
			{Name: "a", Values: []string{"x", "y", "z"}, Sensor: true, Private: true, Shown: true, Start: called("y"), Fallback: called("z")},
			{Name: "b", Low: tenths(-55, "C"), High: tenths(300, "C"), Step: tenths(5, "C"), Shown: true, Start: measured(200, ""), Fallback: measured(-10, "%")}}}}}},
		{"scene s layer 0 { } scene s layer 1000000 { mode = a; l.power = 5 min; quiet = on; p = here; }", api.House{Scenes: []api.Scene{{Name: "s"}, {Name: "s", Layer: 1000000, Settings: []api.Setting{
			{Ref: ref("", "mode"), Value: called("a")}, {Ref: ref("l", "power"), Value: measured(50, "min")}, {Ref: ref("", "quiet"), Value: on}, {Ref: ref("", "p"), Value: called("here")}}}}}},
		{"rule r priority 5 when l.motion is on do l.power = on;", api.House{Rules: []api.RuleText{{Name: "r", Priority: 5,
			Trigger: atom(ref("l", "motion"), api.OpEq, on), Actions: []api.ActionText{{Kind: api.ActSet, Ref: ref("l", "power"), Value: on}}}}}},
		{"rule r priority 0 when timer t if mode is not away and p < 1 and p <= -2.5 C and p > 0 and p >= 1% do start t 5 min, stop u, scene a over b over a, quiet = 7;", api.House{Rules: []api.RuleText{{Name: "r", Timer: "t",
			Guard:   []api.AtomText{atom(ref("", "mode"), api.OpNe, called("away")), atom(ref("", "p"), api.OpLt, measured(10, "")), atom(ref("", "p"), api.OpLe, measured(-25, "C")), atom(ref("", "p"), api.OpGt, measured(0, "")), atom(ref("", "p"), api.OpGe, measured(10, "%"))},
			Actions: []api.ActionText{{Kind: api.ActStart, Timer: "t", Duration: tenths(50, "min")}, {Kind: api.ActStop, Timer: "u"}, {Kind: api.ActScene, Scenes: []string{"a", "b", "a"}}, {Kind: api.ActSet, Ref: ref("", "quiet"), Value: measured(70, "")}}}}}},
		{"law x never h.heat >= 21.5 C and quiet is on for -1 s;", api.House{Laws: []api.LawText{{Name: "x",
			Cond: []api.AtomText{atom(ref("h", "heat"), api.OpGe, measured(215, "C")), atom(ref("", "quiet"), api.OpEq, on)}, Bound: tenths(-10, "s")}}}},
		{"law x never a is b for 5 minutes;", api.House{Laws: []api.LawText{{Name: "x", Cond: []api.AtomText{atom(ref("", "a"), api.OpEq, called("b"))}, Bound: tenths(50, "minutes")}}}},
		{"law x never a is - 0.0 for 999999999.9;", api.House{Laws: []api.LawText{{Name: "x", Cond: []api.AtomText{atom(ref("", "a"), api.OpEq, measured(0, ""))}, Bound: tenths(9999999999, "")}}}},
	} {
		wantHouse(t, test.text, test.want)
	}
}

// P3.1: each error at its offset. The caret stands where the wrong token begins; it is left out of the text.
func TestSyntaxErrors(t *testing.T) {
	for _, text := range []string{
		"room ^mode;", "^a", "^;", "room a ^room b;", "room ^;", "room ^5;", "room a^.b;", "room a;^;", "^}", "room a; ^hall;",
		"quiet ^24:00 to 6:00;", "quiet ^22.0:00 to 6:00;", "quiet 22:^60 to 6:00;", "quiet 22 ^to", "quiet ^-1:00", "quiet 22:00 ^6:00;", "quiet 22:00 to 6^;", "quiet ^mode", "quiet 1:^0.5",
		"kind k ^;", "kind k { ^5", "kind k { a ^;", "kind k { a: ^;", "kind k { a: b ^;", "kind k { a: b ^start", "kind k { a: b or ^5", "kind k { a: b or c ^;", "kind k { a: b or c shown ^sensor", "kind k { a: b or c private ^private", "kind k { a: b or c start ^;",
		"kind k { a: b or c start 5 fallback ^start", "kind k { a: 5 ^or", "kind k { a: 5 to ^a", "kind k { a: 5 to 6 ^start", "kind k { a: - ^a", "kind k { a: 5 C ^C", "kind k { a: 5 % ^%", "kind k { } ^;", "kind k { a: b or c start 5 C; ^;", "kind k { a: 5 to 6 step 1 ^;",
		"device d ^in", "device d: k ^:", "device d: k in ^room", "device d: k in r ^in",
		"scene ^layer", "scene s ^{", "scene s layer ^1.5", "scene s layer ^1000001", "scene s layer ^-1", "scene s layer 1 ^;", "scene s layer 1 { ^;", "scene s layer 1 { a ^is", "scene s layer 1 { a = on^.", "scene s layer 1 { a = on^, b = c", "scene s layer 1 { mode^.a = b", "scene s layer 1 { a.^mode = b",
		"rule r ^when", "rule r priority ^0.0", "rule r priority ^1000001", "rule r priority 5 ^if", "rule r priority 5 when ^do", "rule r priority 5 when timer ^timer", "rule r priority 5 when timer t ^is", "rule r priority 5 when a ^not", "rule r priority 5 when a ^=", "rule r priority 5 when a is ^is",
		"rule r priority 5 when a < ^=", "rule r priority 5 when a is not ^not", "rule r priority 5 when a < ^not 5", "rule r priority 5 when a is b ^and", "rule r priority 5 when a is b if ^timer t", "rule r priority 5 when a is b if c is d ^, e", "rule r priority 5 when a is b ^;", "rule r priority 5 when a is 5 b ^b",
		"rule r priority 5 when a is b do ^;", "rule r priority 5 when a is b do c ^is d", "rule r priority 5 when a is b do start t ^;", "rule r priority 5 when a is b do start t ^min", "rule r priority 5 when a is b do stop ^5", "rule r priority 5 when a is b do stop t ^5", "rule r priority 5 when a is b do scene ^;", "rule r priority 5 when a is b do scene c , ^over", "rule r priority 5 when a is b do c = d, ^;", "rule r priority 5 when a is b do c = d ^and",
		"law l ^for", "law l never ^for", "law l never a is b ^;", "law l never a is b ^, c", "law l never a is b for ^c", "law l never a is b for 5 ^.", "law l never a is b for 5 s ^s", "law l never ^timer",
	} {
		at := strings.Index(text, "^")
		text = strings.Replace(text, "^", "", 1)
		for _, more := range []string{"", " room a;", " ; }", " # note"} {
			wantError(t, text+more, api.ErrSyntax, at)
		}
	}
}

// P3.1: a text that ends in the middle has ErrEnd and its length, with what gaps it may end.
func TestEnds(t *testing.T) {
	for _, text := range []string{"room", "room a", "kind k {", "kind k { a: b or c start 5", "quiet 22:", "scene s layer 1 { a = b;", "rule r priority 5 when l.power is on do start t 5 min", "rule r priority 5 when a is b do scene a over", "law l never a is b for -", "law l never a is b for 5", "law l never a.", "room a; room"} {
		for _, gap := range []string{"", " ", "\n\t", " # room a;"} {
			wantError(t, text+gap, api.ErrEnd, len(text+gap))
		}
	}
}

// P3.1: errors of the lexer come first, wherever the wrong token is.
func TestLexErrors(t *testing.T) {
	wantError(t, "room room $", api.ErrChar, 10)
	wantError(t, "; 1.25", api.ErrNumber, 2)
	wantError(t, "; abcdefghijklmnopq", api.ErrLimit, 2)
	wantError(t, "room $", api.ErrChar, 5)
	wantError(t, ";"+strings.Repeat(" ", 20000), api.ErrLimit, -1)
	wantError(t, strings.Repeat(";", 6001), api.ErrLimit, 6000)
	wantError(t, strings.Repeat(";", 6000), api.ErrSyntax, 0)
	wantError(t, strings.Repeat("room a;", 2000)+"room", api.ErrLimit, 14000)
	wantHouse(t, strings.Repeat("room a;", 2000), api.House{Rooms: strings.Fields(strings.Repeat("a ", 2000))})
}

// P3.1: random houses are parsed from their tokens.
func TestRandomHouses(t *testing.T) {
	r := rand.New(rand.NewSource(1))
	for range 10000 {
		h, words := randomHouse(r, 6)
		wantHouse(t, joined(r, words), h)
	}
	for range 50 {
		h, words := randomHouse(r, 200)
		if text := joined(r, words); len(text) <= api.MaxSource && len(words) <= api.MaxTokens {
			wantHouse(t, text, h)
		}
	}
}

// P3.1: random texts that are nearly right have the errors that the grammar says.
func TestRandomErrors(t *testing.T) {
	r := rand.New(rand.NewSource(2))
	for range 30000 {
		_, words := randomHouse(r, 2)
		wantReference(t, joined(r, spoiled(r, words)))
	}
}

// P3.1: after the beginning of each item, each token is right or wrong as the grammar says.
func TestEachNext(t *testing.T) {
	r := rand.New(rand.NewSource(3))
	next := append(keyWordsAndSymbols(), "a", "5", "0.5", "23", "24", "59", "60", "1000000", "1000001", "0", "000000000")
	for range 200 {
		_, words := randomHouse(r, 1)
		for i := range words {
			for _, word := range next {
				wantReference(t, strings.Join(append(words[:i:i], word), " "))
			}
		}
	}
}

// keyWordsAndSymbols returns all key words and all symbols.
func keyWordsAndSymbols() []string {
	return append(strings.Fields("{ } ; : , . = < <= > >= - %"), keyWords...)
}

// P1: Parse ends and does not panic, whatever the bytes are.
func FuzzParse(f *testing.F) {
	for _, text := range []string{"", "room a;", "kind k { a: 5 to 6 step 1 start 5; }", "rule r priority 5 when a is b do scene c over d;", "law l never a.b >= -5 C for 5 s;", "quiet 22:00 to 6:00;"} {
		f.Add(text)
	}
	f.Fuzz(func(t *testing.T, text string) {
		if _, err, _ := lexer.Lex(text); err == api.OK && len(text) > 300 {
			return
		}
		wantReference(t, text)
	})
}
