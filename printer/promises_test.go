package printer_test

import (
	"math/rand"
	"reflect"
	"slices"
	"strings"
	"testing"

	"domicile/api"
	"domicile/lexer"
	"domicile/parser"
	"domicile/printer"
)

// keyWords are the key words of layer 3.
var keyWords = strings.Fields("room kind device in person mode timer quiet to scene layer rule priority when if and do law never for or step sensor private shown start fallback is not stop over")

// fits reports whether a text keeps to the limits of the lexer.
func fits(text string) bool {
	_, err, _ := lexer.Lex(text)
	return err != api.ErrLimit
}

// P4.2: a printable house is parsed from its text.
func TestInverse(t *testing.T) {
	m := maker{rand.New(rand.NewSource(2))}
	for range 5000 {
		h := m.house()
		text := printer.Print(h)
		if got, err, at := parser.Parse(text); fits(text) && (err != api.OK || at != -1 || !reflect.DeepEqual(got, h)) {
			t.Errorf("%q is parsed to %+v, %v, %v, want %+v", text, got, err, at, h)
		}
	}
}

// P4.3: what is parsed is printable, and its text is parsed to it.
func TestCanonical(t *testing.T) {
	m := maker{rand.New(rand.NewSource(3))}
	gaps := []string{" ", "  ", "\n", "\t", " # note\n"}
	for range 3000 {
		tokens, _, _ := lexer.Lex(printer.Print(m.house()))
		var b strings.Builder
		for _, token := range tokens {
			b.WriteString(token.Text + gaps[m.Intn(len(gaps))])
		}
		h, err, _ := parser.Parse(b.String())
		if err != api.OK {
			continue
		}
		again, err, _ := parser.Parse(printer.Print(h))
		if !printer.Printable(h) || err != api.OK || !reflect.DeepEqual(again, h) {
			t.Errorf("%q is parsed to a house that is printed as %q", b.String(), printer.Print(h))
		}
	}
	for _, text := range []string{"law l never a is -0 for 05.0 s;", "quiet 00:5 to 09:09;", "kind k { a: b or c start b fallback b; }", "law l never a.b is not - 7.5% for 0.0;"} {
		h, err, _ := parser.Parse(text)
		again, errAgain, _ := parser.Parse(printer.Print(h))
		if err != api.OK || errAgain != api.OK || !printer.Printable(h) || !reflect.DeepEqual(again, h) {
			t.Errorf("%q is printed as %q", text, printer.Print(h))
		}
	}
}

// leaf is a number, text or flag in a house, or a list.
type leaf struct{ v reflect.Value }

// leaves returns all leaves of a value.
func leaves(v reflect.Value) []leaf {
	var list []leaf
	switch v.Kind() {
	case reflect.Struct:
		for i := range v.NumField() {
			list = append(list, leaves(v.Field(i))...)
		}
	case reflect.Slice:
		list = append(list, leaf{v})
		for i := range v.Len() {
			list = append(list, leaves(v.Index(i))...)
		}
	default:
		list = append(list, leaf{v})
	}
	return list
}

// change changes a leaf.
func (l leaf) change(m maker) {
	switch l.v.Kind() {
	case reflect.Bool:
		l.v.SetBool(!l.v.Bool())
	case reflect.Int:
		l.v.SetInt(int64(m.pick(int(l.v.Int())+1, int(l.v.Int())-1, -int(l.v.Int()), 0, 1000001, 1440, 10000000000)))
	case reflect.String:
		l.v.SetString(append(badNames, "a", "hall", "b", "mode", "quiet", "%")[m.Intn(len(badNames)+6)])
	case reflect.Slice:
		if n := l.v.Len(); n > 0 {
			l.v.Set(l.v.Slice(0, n-1))
		}
	}
}

// copied returns a house that shares no memory with another one.
func copied(h api.House) api.House {
	var c func(v reflect.Value) reflect.Value
	c = func(v reflect.Value) reflect.Value {
		to := reflect.New(v.Type()).Elem()
		to.Set(v)
		switch v.Kind() {
		case reflect.Struct:
			for i := range v.NumField() {
				to.Field(i).Set(c(v.Field(i)))
			}
		case reflect.Slice:
			if v.Len() == 0 {
				to.SetZero()
				break
			}
			to.Set(reflect.MakeSlice(v.Type(), v.Len(), v.Len()))
			for i := range v.Len() {
				to.Index(i).Set(c(v.Index(i)))
			}
		}
		return to
	}
	return c(reflect.ValueOf(h)).Interface().(api.House)
}

// P4.1 to P4.4: a house with one change has another text, and is printable exactly if it can be parsed from a text.
func TestChanges(t *testing.T) {
	m := maker{rand.New(rand.NewSource(4))}
	printable, not := 0, 0
	for range 20000 {
		h := m.house()
		changed := copied(h)
		list := leaves(reflect.ValueOf(&changed).Elem())
		list[m.Intn(len(list))].change(m)
		changed = copied(changed)
		got, text := printer.Print(changed), refHouse(changed)
		parsed, err, _ := parser.Parse(text)
		if !fits(text) {
			continue
		}
		if right := err == api.OK && reflect.DeepEqual(parsed, changed); right != printer.Printable(changed) || right && got != text || !right && got != "" {
			t.Errorf("Print(%+v) = %q; the text %q is parsed: %v", changed, got, text, right)
		} else if right {
			printable++
		} else {
			not++
		}
		if printer.Printable(changed) && (got == printer.Print(h)) != reflect.DeepEqual(changed, h) {
			t.Errorf("%+v and %+v have the text %q", h, changed, got)
		}
	}
	if printable < 1000 || not < 1000 {
		t.Errorf("%d printable houses and %d others are too few", printable, not)
	}
}

// P4.5: the text of a house is that of its parts, item by item.
func TestParts(t *testing.T) {
	m := maker{rand.New(rand.NewSource(5))}
	for range 2000 {
		h := m.house()
		text := printer.Print(h)
		for len(h.Laws)+len(h.Rules) > 0 {
			rest, last := h, api.House{}
			if n := len(h.Laws); n > 0 {
				rest.Laws, last.Laws = h.Laws[:n-1], h.Laws[n-1:]
			} else {
				n := len(h.Rules)
				rest.Rules, last.Rules = h.Rules[:n-1], h.Rules[n-1:]
			}
			if got := printer.Print(rest) + printer.Print(last); got != text {
				t.Errorf("the parts of %q have the text %q", text, got)
			}
			h, text = rest, printer.Print(rest)
		}
	}
}

// P4.6: the number of lines, and the lines of rules.
func TestLines(t *testing.T) {
	m := maker{rand.New(rand.NewSource(6))}
	for range 2000 {
		h := m.house()
		want := len(h.Rooms) + 2*len(h.Kinds) + len(h.Devices) + len(h.Persons) + len(h.Modes) + len(h.Timers) + len(h.Quiet) + 2*len(h.Scenes) + len(h.Rules) + len(h.Laws)
		for _, k := range h.Kinds {
			want += len(k.Attrs)
		}
		for _, s := range h.Scenes {
			want += len(s.Settings)
		}
		lines := strings.SplitAfter(printer.Print(h), "\n")
		if len(lines)-1 != want || lines[len(lines)-1] != "" {
			t.Errorf("%q has %d lines, want %d", printer.Print(h), len(lines)-1, want)
		}
		for i, r := range h.Rules {
			if got := lines[want-len(h.Laws)-len(h.Rules)+i]; got != printer.Rule(r)+"\n" {
				t.Errorf("the line %q is not the rule %q", got, printer.Rule(r))
			}
		}
	}
}

// P4.7: key words and names that are too long are no names.
func TestNames(t *testing.T) {
	for _, key := range keyWords {
		wantNone(t, api.House{Rooms: []string{key}})
		for _, name := range []string{key + "s", "x" + key, strings.ToUpper(key)} {
			wantText(t, api.House{Rooms: []string{name}}, "room "+name+";\n")
		}
	}
	wantText(t, api.House{Rooms: []string{strings.Repeat("a", 16)}}, "room aaaaaaaaaaaaaaaa;\n")
	wantNone(t, api.House{Rooms: []string{strings.Repeat("a", 17)}})
	for b := range 256 {
		for _, name := range []string{string([]byte{byte(b)}), string([]byte{'a', byte(b)})} {
			_, err, _ := parser.Parse("room " + name + "\n;")
			tokens, _, _ := lexer.Lex(name)
			if right := err == api.OK && len(tokens) == 1 && tokens[0].Text == name; right != printer.Printable(api.House{Rooms: []string{name}}) {
				t.Errorf("the name %q: %v", name, !right)
			}
		}
	}
}

// P4.5: a house that is joined to another one has all its lines, kind of item by kind.
func TestJoining(t *testing.T) {
	m := maker{rand.New(rand.NewSource(7))}
	for range 500 {
		a, b := m.house(), m.house()
		lines := func(text string) []string {
			l := strings.SplitAfter(text, "\n")
			slices.Sort(l)
			return l[1:]
		}
		want := append(lines(printer.Print(a)), lines(printer.Print(b))...)
		slices.Sort(want)
		if got := lines(printer.Print(both(a, b))); !slices.Equal(got, want) {
			t.Errorf("the houses have the lines %q, want %q", got, want)
		}
	}
}

// P3: equal houses have equal texts, and printing changes nothing.
func TestIndependence(t *testing.T) {
	m := maker{rand.New(rand.NewSource(8))}
	for range 500 {
		h := m.house()
		before := copied(h)
		first := printer.Print(h)
		if again := printer.Print(copied(h)); again != first || !reflect.DeepEqual(h, before) {
			t.Errorf("%+v is printed as %q and then as %q", before, first, again)
		}
	}
}
