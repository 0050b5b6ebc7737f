package session_test

import (
	"math/rand"
	"slices"
	"testing"

	"domicile/api"
	"domicile/session"
)

func opposite(l []api.Event) []api.Event {
	var other []api.Event
	for _, e := range l {
		other = append(other, api.Event{Send: !e.Send, Msg: e.Msg})
	}
	return other
}

// P23.2: sequences are followed message by message.
func TestSequences(t *testing.T) {
	m := maker{rand.New(rand.NewSource(232))}
	for range 500 {
		s := m.session(6)
		l := m.sequence(s)
		state, ok := 0, true
		for i, e := range l {
			if ok {
				state, ok = session.Next(s, state, e)
			}
			got, permitted := session.Follow(s, l[:i+1])
			if permitted != ok || ok && got != state || !ok && got != 0 {
				t.Fatalf("%v: Follow(%v) = %d, %v, want %d, %v", s, l[:i+1], got, permitted, state, ok)
			}
		}
	}
}

// P23.3: the dual of the dual is the session type; the dual permits the opposite.
func TestDuals(t *testing.T) {
	m := maker{rand.New(rand.NewSource(233))}
	permitted := 0
	for range 500 {
		s := m.session(6)
		dual := session.Dual(s)
		if !session.Valid(dual) || !same(session.Dual(dual), s) {
			t.Fatalf("the dual of the dual of %v is another one", s)
		}
		l := m.sequence(s)
		a, ok := session.Follow(s, l)
		b, also := session.Follow(dual, opposite(l))
		if a != b || ok != also {
			t.Fatalf("%v: %v is %v, but its opposite %v", s, l, ok, also)
		}
		if ok && len(l) > 2 {
			permitted++
		}
	}
	if permitted < 100 {
		t.Errorf("only %d permitted sequences", permitted)
	}
}

// telling returns a sequence that only one of two session types permits, found by a search.
func telling(a, b api.Session) ([]api.Event, bool) {
	type point struct {
		x, y int
		l    []api.Event
	}
	queue, seen := []point{{}}, map[[2]int]bool{{}: true}
	for i := 0; i < len(queue); i++ {
		p := queue[i]
		for _, e := range append(events(a.States[p.x]), events(b.States[p.y])...) {
			l := append(slices.Clone(p.l), e)
			x, ok := session.Follow(a, l)
			y, also := session.Follow(b, l)
			if ok != also {
				return l, true
			}
			if !seen[[2]int{x, y}] {
				seen[[2]int{x, y}] = true
				queue = append(queue, point{x, y, l})
			}
		}
	}
	return nil, false
}

// P23.4: Same is an equivalence; a sequence tells session types apart exactly if they are not the same.
func TestSameness(t *testing.T) {
	m := maker{rand.New(rand.NewSource(234))}
	differ, together := 0, 0
	for range 400 {
		a := m.session(5)
		b, c := m.change(a), m.copies(a)
		if !session.Same(a, a) || !session.Same(a, c) || session.Same(a, b) != session.Same(b, a) {
			t.Fatalf("Same is no equivalence for %v and %v", a, b)
		}
		if session.Same(a, b) {
			together++
			if !session.Same(b, c) {
				t.Fatalf("Same is not transitive for %v, %v, %v", a, b, c)
			}
		}
		l, found := telling(a, b)
		if found == session.Same(a, b) {
			t.Fatalf("%v and %v are told apart by %v: %v", a, b, l, found)
		}
		if found {
			differ++
		}
	}
	if differ < 50 || together < 50 {
		t.Errorf("the test covers too little: %d, %d", differ, together)
	}
}

// P23.5: the least session type is the same, its own least one, and decides what is the same.
func TestLeast(t *testing.T) {
	m := maker{rand.New(rand.NewSource(235))}
	for range 600 {
		a := m.session(6)
		b := m.change(a)
		least := session.Least(a)
		if !session.Valid(least) || !session.Same(a, least) || !same(session.Least(least), least) {
			t.Fatalf("Least(%v) = %v", a, least)
		}
		if session.Same(a, b) != same(least, session.Least(b)) {
			t.Fatalf("%v and %v: the least ones are equal, but not the same, or the other way round", a, b)
		}
		if dual := session.Least(session.Dual(a)); !same(dual, session.Least(session.Dual(least))) || len(dual.States) != len(least.States) || !session.Same(session.Dual(dual), least) {
			t.Fatalf("the dual of %v has the least one %v", a, dual)
		}
	}
}

// P23.6: all states of the least session type can be reached, and are told apart.
func TestFewest(t *testing.T) {
	m := maker{rand.New(rand.NewSource(236))}
	for range 600 {
		least := session.Least(m.copies(m.session(6)))
		differ := refDiffer(least)
		reached := map[int]bool{0: true}
		for i, choices := range least.States {
			if !reached[i] {
				t.Fatalf("%v: the state %d cannot be reached from those before it", least, i)
			}
			for _, c := range choices {
				reached[c.Next] = true
			}
			for j := range i {
				if !differ[i][j] {
					t.Fatalf("%v: the states %d and %d permit the same", least, i, j)
				}
			}
		}
	}
	// The order of choices decides the numbers: receiving comes before sending, then less messages.
	s := api.Session{States: [][]api.Choice{{{Send: true, Msg: 1, Next: 3}, {Msg: 7, Next: 1}, {Msg: 2, Next: 2}}, {{Msg: 1, Next: 1}}, {{Msg: 2, Next: 1}}, {}}}
	want := api.Session{States: [][]api.Choice{{{Msg: 2, Next: 1}, {Msg: 7, Next: 2}, {Send: true, Msg: 1, Next: 3}}, {{Msg: 2, Next: 2}}, {{Msg: 1, Next: 2}}, {}}}
	if got := session.Least(s); !same(got, want) {
		t.Errorf("Least = %v, want %v", got, want)
	}
}

// P23.7: the numbers of the states and the order of choices do not matter.
func TestStates(t *testing.T) {
	m := maker{rand.New(rand.NewSource(237))}
	for range 600 {
		a, b := m.session(6), m.session(6)
		c, d := m.copies(a), m.copies(b)
		if session.Same(a, b) != session.Same(c, d) || !same(session.Least(a), session.Least(c)) {
			t.Fatalf("%v and %v, but %v and %v", a, b, c, d)
		}
	}
}
