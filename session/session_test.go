package session_test

import (
	"fmt"
	"math"
	"math/rand"
	"testing"

	"domicile/api"
	"domicile/session"
)

func same(a, b any) bool { return fmt.Sprintf("%+v", a) == fmt.Sprintf("%+v", b) }

func lamp() api.Session {
	return api.Session{States: [][]api.Choice{{{Msg: 1, Next: 1}}, {{Send: true, Msg: 2, Next: 0}}}}
}

func lampTwice() api.Session {
	return api.Session{States: [][]api.Choice{{{Msg: 1, Next: 1}}, {{Send: true, Msg: 2, Next: 2}}, {{Msg: 1, Next: 3}}, {{Send: true, Msg: 2, Next: 0}}}}
}

// P23.1: the examples of the chapter.
func TestExamples(t *testing.T) {
	on, done := api.Event{Msg: 1}, api.Event{Send: true, Msg: 2}
	if state, ok := session.Follow(lamp(), []api.Event{on, done, on}); state != 1 || !ok {
		t.Errorf("Follow = %d, %v", state, ok)
	}
	if state, ok := session.Follow(lamp(), []api.Event{done}); state != 0 || ok {
		t.Errorf("Follow = %d, %v", state, ok)
	}
	want := api.Session{States: [][]api.Choice{{{Send: true, Msg: 1, Next: 1}}, {{Msg: 2, Next: 0}}}}
	if got := session.Dual(lamp()); !same(got, want) {
		t.Errorf("Dual = %v", got)
	}
	if !session.Same(lamp(), lampTwice()) {
		t.Error("the lamp that repeats it twice is not the same")
	}
	if got := session.Least(lampTwice()); !same(got, lamp()) {
		t.Errorf("Least = %v", got)
	}
}

// badSessions returns session types that are not well-formed, each by a little.
func badSessions() []api.Session {
	nine := make([]api.Choice, 9)
	for i := range nine {
		nine[i].Msg = i
	}
	one := func(l ...api.Choice) api.Session { return api.Session{States: [][]api.Choice{l}} }
	return []api.Session{
		{},
		{States: make([][]api.Choice, 17)},
		one(nine...),
		one(api.Choice{Msg: -1}),
		one(api.Choice{Msg: 64}),
		one(api.Choice{Next: 1}),
		one(api.Choice{Next: -1}),
		one(api.Choice{Next: math.MinInt}),
		one(api.Choice{Msg: 5}, api.Choice{Msg: 6}, api.Choice{Msg: 5}),
		one(api.Choice{Send: true, Msg: 5}, api.Choice{Send: true, Msg: 5}),
		{States: [][]api.Choice{{{Msg: 5, Next: 1}, {Msg: 5}}, {}}},
	}
}

// P23.1, W1: which session types are well-formed; all else is zero for the others.
func TestValid(t *testing.T) {
	eight := make([]api.Choice, 8)
	for i := range eight {
		eight[i] = api.Choice{Send: i%2 == 0, Msg: 63 - i/2, Next: 2 * i}
	}
	full := api.Session{States: make([][]api.Choice, 16)}
	for i := range full.States {
		full.States[i] = eight
	}
	for _, s := range []api.Session{lamp(), full, {States: make([][]api.Choice, 1)}, {States: [][]api.Choice{{{Msg: 5}, {Send: true, Msg: 5}}}}} {
		if !session.Valid(s) {
			t.Errorf("Valid(%v) = false", s)
		}
	}
	for i, s := range badSessions() {
		if session.Valid(s) {
			t.Errorf("%d: Valid(%v) = true", i, s)
		}
		for state := range 2 {
			if next, ok := session.Next(s, state, api.Event{Msg: 5}); next != 0 || ok {
				t.Errorf("%d: Next = %d, %v", i, next, ok)
			}
		}
		for _, l := range [][]api.Event{nil, {{Msg: 5}}} {
			if next, ok := session.Follow(s, l); next != 0 || ok {
				t.Errorf("%d: Follow(%v) = %d, %v", i, l, next, ok)
			}
		}
		if session.Same(s, s) || session.Same(s, lamp()) || session.Same(lamp(), s) {
			t.Errorf("%d: Same = true", i)
		}
		if !same(session.Dual(s), api.Session{}) || !same(session.Least(s), api.Session{}) {
			t.Errorf("%d: a dual or a least session type", i)
		}
	}
}

// P23.1, W2: states that do not exist, and messages that are not permitted.
func TestNext(t *testing.T) {
	for _, test := range []struct {
		state int
		e     api.Event
		next  int
		ok    bool
	}{
		{0, api.Event{Msg: 1}, 1, true}, {1, api.Event{Send: true, Msg: 2}, 0, true},
		{0, api.Event{Send: true, Msg: 1}, 0, false}, {0, api.Event{Msg: 2}, 0, false}, {1, api.Event{Msg: 2}, 0, false},
		{-1, api.Event{Msg: 1}, 0, false}, {2, api.Event{Msg: 1}, 0, false}, {math.MaxInt, api.Event{}, 0, false}, {0, api.Event{Msg: -1}, 0, false},
	} {
		if next, ok := session.Next(lamp(), test.state, test.e); next != test.next || ok != test.ok {
			t.Errorf("Next(%d, %v) = %d, %v", test.state, test.e, next, ok)
		}
	}
	if next, ok := session.Follow(lamp(), nil); next != 0 || !ok {
		t.Errorf("Follow of nothing = %d, %v", next, ok)
	}
	// A message that is not permitted ends a sequence for good, also if it leads to the state 1 first.
	if next, ok := session.Follow(lamp(), []api.Event{{Msg: 1}, {Msg: 1}}); next != 0 || ok {
		t.Errorf("Follow = %d, %v", next, ok)
	}
}

// P23.1: random session types, against the definitions.
func TestRandom(t *testing.T) {
	m := maker{rand.New(rand.NewSource(1))}
	equal, smaller := 0, 0
	for range 1500 {
		a := m.session(7)
		b := m.change(a)
		if m.chance(4) {
			b = m.copies(a)
		}
		want := refSame(a, b)
		if got := session.Same(a, b); got != want {
			t.Fatalf("Same(%v, %v) = %v", a, b, got)
		}
		if want {
			equal++
		}
		least := session.Least(b)
		if want := refLeast(b); !same(least, want) {
			t.Fatalf("Least(%v) = %v, want %v", b, least, want)
		}
		if n := len(least.States); n > 1 && n < len(b.States) {
			smaller++
		}
		l := m.sequence(a)
		state, ok := session.Follow(a, l)
		if wantState, want := refPermits(a, l); state != wantState || ok != want {
			t.Fatalf("Follow(%v, %v) = %d, %v", a, l, state, ok)
		}
	}
	if equal < 200 || equal > 1300 || smaller < 200 {
		t.Errorf("the test covers too little: %d, %d", equal, smaller)
	}
}

// P3: equal arguments yield equal results, arguments stay as they are, and results share no memory.
func TestIndependence(t *testing.T) {
	m := maker{rand.New(rand.NewSource(2))}
	for range 300 {
		s := m.session(8)
		before := fmt.Sprint(s)
		for _, f := range []func(api.Session) api.Session{session.Dual, session.Least} {
			first := f(s)
			text := fmt.Sprint(first)
			for _, choices := range first.States {
				for i := range choices {
					choices[i] = api.Choice{Msg: 77}
				}
				_ = append(choices, api.Choice{Msg: 78})
			}
			if again := fmt.Sprint(f(s)); again != text || fmt.Sprint(s) != before {
				t.Fatalf("%s: %s and %s", before, text, again)
			}
		}
	}
}
