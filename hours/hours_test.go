package hours_test

import (
	"fmt"
	"math"
	"math/rand"
	"slices"
	"testing"

	"domicile/api"
	"domicile/hours"
)

func night() []api.Window { return []api.Window{{From: 1320, To: 360}, {From: 780, To: 840}} }

// P22.1: the examples of the chapter.
func TestExamples(t *testing.T) {
	for minute, want := range map[int]bool{0: true, 359: true, 360: false, 1319: false, 1320: true, 800: true, -1: true} {
		if got := hours.Quiet(night(), minute); got != want {
			t.Errorf("Quiet(%d) = %v", minute, got)
		}
	}
	for minute, want := range map[int]int{0: 360, 359: 1, 360: 420} {
		if n, ok := hours.Next(night(), minute); n != want || !ok {
			t.Errorf("Next(%d) = %d, %v, want %d", minute, n, ok, want)
		}
	}
	want := []api.Change{{Minute: 360}, {Minute: 780, Quiet: true}, {Minute: 840}, {Minute: 1320, Quiet: true}}
	if got := hours.Changes(night(), 0, 1440); !slices.Equal(got, want) {
		t.Errorf("Changes = %v", got)
	}
	if n, ok := hours.Next([]api.Window{{From: 0, To: 720}, {From: 720, To: 0}}, 5); n != 0 || ok {
		t.Errorf("Next of always quiet windows = %d, %v", n, ok)
	}
}

// P22.1, V1: which windows are well-formed.
func TestValid(t *testing.T) {
	nine := slices.Repeat([]api.Window{{From: 5, To: 9}}, 9)
	for i, test := range []struct {
		l    []api.Window
		want bool
	}{
		{nil, true},
		{[]api.Window{{From: 0, To: 1439}}, true},
		{[]api.Window{{From: 1439, To: 0}}, true},
		{[]api.Window{{From: -1, To: 5}}, false},
		{[]api.Window{{From: 5, To: -1}}, false},
		{[]api.Window{{From: 1440, To: 5}}, false},
		{[]api.Window{{From: 5, To: 1440}}, false},
		{[]api.Window{{From: 0, To: 0}}, false},
		{[]api.Window{{From: 1, To: 2}, {From: 7, To: 7}}, false},
		{[]api.Window{{From: math.MinInt, To: math.MaxInt}}, false},
		{nine[:8], true},
		{nine, false},
	} {
		if got := hours.Valid(test.l); got != test.want {
			t.Errorf("%d: Valid(%v) = %v", i, test.l, got)
		}
	}
}

// P22.1: results are zero for windows that are not well-formed, and for minutes out of range.
func TestInvalid(t *testing.T) {
	bad := []api.Window{{From: 0, To: 720}, {From: 9, To: 9}}
	if hours.Quiet(bad, 5) {
		t.Error("Quiet with wrong windows")
	}
	if n, ok := hours.Next(bad, 5); n != 0 || ok {
		t.Error("Next with wrong windows")
	}
	if l := hours.Changes(bad, 0, 1440); len(l) != 0 {
		t.Error("Changes with wrong windows")
	}
	always := []api.Window{{From: 0, To: 720}, {From: 700, To: 0}}
	for _, minute := range []int{1000000001, -1000000001, math.MaxInt, math.MinInt} {
		if hours.Quiet(always, minute) {
			t.Errorf("Quiet(%d)", minute)
		}
		if n, ok := hours.Next(night(), minute); n != 0 || ok {
			t.Errorf("Next(%d) = %d, %v", minute, n, ok)
		}
		for _, other := range []int{minute - 1000, minute + 1000, 0} {
			if len(hours.Changes(night(), minute, other))+len(hours.Changes(night(), other, minute)) > 0 {
				t.Errorf("Changes with %d and %d", minute, other)
			}
		}
	}
	const end = 1000000000
	if !hours.Quiet(always, end) || !hours.Quiet(always, -end) {
		t.Error("the ends of the range are in range")
	}
	if _, ok := hours.Next(night(), end); !ok {
		t.Error("a change can be beyond the range")
	}
}

// P22.1, V4: the ranges of Changes.
func TestRanges(t *testing.T) {
	for _, test := range []struct{ from, till, want int }{
		{0, 0, 0}, {1440, 0, 0}, {0, 14400, 40}, {0, 14401, 0}, {359, 360, 1}, {360, 361, 0}, {360, 360, 0}, {-14400, 0, 40}, {-14401, 0, 0},
	} {
		if got := hours.Changes(night(), test.from, test.till); len(got) != test.want {
			t.Errorf("Changes(%d, %d) has %d elements, want %d", test.from, test.till, len(got), test.want)
		}
	}
}

// P22.1: random windows, against the definitions.
func TestRandom(t *testing.T) {
	m := maker{rand.New(rand.NewSource(1))}
	always, never, changes := 0, 0, 0
	for range 1000 {
		l, minute := m.windows(), m.minute()
		if got, want := hours.Quiet(l, minute), refQuiet(l, minute); got != want {
			t.Fatalf("Quiet(%v, %d) = %v", l, minute, got)
		}
		n, ok := hours.Next(l, minute)
		if want, there := refNext(l, minute); n != want || ok != there {
			t.Fatalf("Next(%v, %d) = %d, %v, want %d, %v", l, minute, n, ok, want, there)
		}
		if !ok && hours.Quiet(l, minute) {
			always++
		} else if !ok {
			never++
		}
		from := m.Intn(20000) - 10000
		till := from + m.Intn(4000) - 500
		got := hours.Changes(l, from, till)
		if want := refChanges(l, from, till); !slices.Equal(got, want) {
			t.Fatalf("Changes(%v, %d, %d) = %v, want %v", l, from, till, got, want)
		}
		changes += len(got)
	}
	if always < 20 || never < 100 || changes < 1000 {
		t.Errorf("the test covers too little: %d, %d, %d", always, never, changes)
	}
}

// P3: equal arguments yield equal results, arguments stay as they are, and results share no memory.
func TestIndependence(t *testing.T) {
	m := maker{rand.New(rand.NewSource(2))}
	for range 200 {
		l, from := m.windows(), m.Intn(3000)
		before := slices.Clone(l)
		first := hours.Changes(l, from, from+3000)
		text := fmt.Sprint(first)
		for i := range first {
			first[i] = api.Change{Minute: -7}
		}
		if again := fmt.Sprint(hours.Changes(l, from, from+3000)); again != text || !slices.Equal(l, before) {
			t.Fatalf("Changes of %v: %s and %s", before, text, again)
		}
	}
}
