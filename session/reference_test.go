package session_test

import (
	"math/rand"
	"slices"

	"domicile/api"
)

// refPermits says whether a sequence is permitted, by the definition, and where it leads.
func refPermits(s api.Session, l []api.Event) (int, bool) {
	state := 0
next:
	for _, e := range l {
		for _, c := range s.States[state] {
			if c.Send == e.Send && c.Msg == e.Msg {
				state = c.Next
				continue next
			}
		}
		return 0, false
	}
	return state, true
}

func events(choices []api.Choice) []api.Event {
	var l []api.Event
	for _, c := range choices {
		l = append(l, api.Event{Send: c.Send, Msg: c.Msg})
	}
	slices.SortFunc(l, func(a, b api.Event) int {
		if a.Send != b.Send {
			if b.Send {
				return -1
			}
			return 1
		}
		return a.Msg - b.Msg
	})
	return l
}

// refDiffer marks the pairs of states that some sequence tells apart, until no further pair is found.
func refDiffer(s api.Session) [][]bool {
	n := len(s.States)
	differ := make([][]bool, n)
	for i := range differ {
		differ[i] = make([]bool, n)
	}
	for changed := true; changed; {
		changed = false
		for i := range n {
			for j := range n {
				if differ[i][j] {
					continue
				}
				d := !slices.Equal(events(s.States[i]), events(s.States[j]))
				for _, c := range s.States[i] {
					for _, o := range s.States[j] {
						if c.Send == o.Send && c.Msg == o.Msg && differ[c.Next][o.Next] {
							d = true
						}
					}
				}
				if d {
					differ[i][j], differ[j][i], changed = true, true, true
				}
			}
		}
	}
	return differ
}

// refSame puts both session types side by side into one.
func refSame(a, b api.Session) bool {
	both := api.Session{States: slices.Clone(a.States)}
	for _, choices := range b.States {
		var moved []api.Choice
		for _, c := range choices {
			c.Next += len(a.States)
			moved = append(moved, c)
		}
		both.States = append(both.States, moved)
	}
	return !refDiffer(both)[0][len(a.States)]
}

// refLeast takes the first of each set of equal states, and numbers them as they are found.
func refLeast(s api.Session) api.Session {
	differ := refDiffer(s)
	first := func(state int) int { return slices.Index(differ[state], false) }
	order, least := []int{first(0)}, api.Session{}
	for i := 0; i < len(order); i++ {
		var choices []api.Choice
		for _, e := range events(s.States[order[i]]) {
			for _, c := range s.States[order[i]] {
				if c.Send != e.Send || c.Msg != e.Msg {
					continue
				}
				to := first(c.Next)
				if !slices.Contains(order, to) {
					order = append(order, to)
				}
				choices = append(choices, api.Choice{Send: c.Send, Msg: c.Msg, Next: slices.Index(order, to)})
			}
		}
		least.States = append(least.States, choices)
	}
	return least
}

// maker makes up session types and sequences.
type maker struct{ *rand.Rand }

func (m maker) chance(n int) bool { return m.Intn(n) == 0 }

// session returns a well-formed session type with at most n states and few messages.
func (m maker) session(n int) api.Session {
	s := api.Session{States: make([][]api.Choice, 1+m.Intn(n))}
	kinds := 1 + m.Intn(3)
	for i := range s.States {
		for msg := range kinds {
			for _, send := range []bool{false, true} {
				if m.chance(3) {
					s.States[i] = append(s.States[i], api.Choice{Send: send, Msg: msg, Next: m.Intn(len(s.States))})
				}
			}
		}
		m.Shuffle(len(s.States[i]), func(a, b int) { s.States[i][a], s.States[i][b] = s.States[i][b], s.States[i][a] })
	}
	return s
}

// copies returns a session type that permits the same, with copies of states, and all renumbered.
func (m maker) copies(s api.Session) api.Session {
	n := min(16, len(s.States)+m.Intn(5))
	from := make([]int, n)
	for i := range from {
		from[i] = i
		if i >= len(s.States) {
			from[i] = m.Intn(len(s.States))
		}
	}
	m.Shuffle(n-1, func(a, b int) { from[a+1], from[b+1] = from[b+1], from[a+1] })
	t := api.Session{States: make([][]api.Choice, n)}
	for i := range t.States {
		for _, c := range s.States[from[i]] {
			for {
				next := m.Intn(n)
				if from[next] == c.Next {
					t.States[i] = append(t.States[i], api.Choice{Send: c.Send, Msg: c.Msg, Next: next})
					break
				}
			}
		}
		m.Shuffle(len(t.States[i]), func(a, b int) { t.States[i][a], t.States[i][b] = t.States[i][b], t.States[i][a] })
	}
	return t
}

// change returns a session type that differs a little.
func (m maker) change(s api.Session) api.Session {
	t := m.copies(s)
	i := m.Intn(len(t.States))
	if len(t.States[i]) == 0 {
		return t
	}
	c := m.Intn(len(t.States[i]))
	if m.chance(2) {
		t.States[i] = slices.Delete(t.States[i], c, c+1)
	} else {
		t.States[i][c].Next = m.Intn(len(t.States))
	}
	return t
}

// sequence returns messages that are mostly permitted.
func (m maker) sequence(s api.Session) []api.Event {
	var l []api.Event
	state := 0
	for range m.Intn(12) {
		if m.chance(15) {
			l = append(l, api.Event{Send: m.chance(2), Msg: m.Intn(3)})
			continue
		}
		if len(s.States[state]) == 0 {
			break
		}
		c := s.States[state][m.Intn(len(s.States[state]))]
		l = append(l, api.Event{Send: c.Send, Msg: c.Msg})
		state = c.Next
	}
	return l
}
