package crypto_test

import (
	"fmt"
	"math"
	"math/rand"
	"slices"
	"testing"

	"domicile/crypto"
)

func same(a, b any) bool { return fmt.Sprintf("%+v", a) == fmt.Sprintf("%+v", b) }

// P27.1: the examples of the chapter, and small cases by hand.
func TestExamples(t *testing.T) {
	for i, test := range []struct{ got, want int }{
		{crypto.Sum(nil), 7}, {crypto.Sum([]int{0}), 7000022},
		{crypto.Sum([]int{-1}), (7000021 + 2147483647) % 2147483647}, {crypto.Sum([]int{2147483647}), 7000022}, {crypto.Sum([]int{-2147483648}), 7000021},
		{crypto.Public(0), 1}, {crypto.Public(1), 7}, {crypto.Public(2), 49}, {crypto.Public(2147483646), 1}, {crypto.Public(2147483647), 7}, {crypto.Public(-2147483645), 7},
		{crypto.Shared(0, 0), 1}, {crypto.Shared(1, 0), 0}, {crypto.Shared(1, -1), 2147483646}, {crypto.Shared(2, -3), 9}, {crypto.Shared(3, 2147483649), 8}, {crypto.Shared(-1, 1), 1},
		{crypto.Shared(3, crypto.Public(5)), crypto.Shared(5, crypto.Public(3))},
		{crypto.Tag(0, nil), crypto.Sum([]int{0, 0})}, {crypto.Tag(5, []int{8, 9}), crypto.Sum([]int{5, 2, 8, 9})},
		{crypto.Root(nil), 7}, {crypto.Root([][]int{nil}), crypto.Sum([]int{0, 7})},
	} {
		if test.got != test.want {
			t.Errorf("%d: %d, want %d", i, test.got, test.want)
		}
	}
}

// P27.1, AA4, AA5: the limits of trees.
func TestTreeLimits(t *testing.T) {
	m := maker{rand.New(rand.NewSource(1))}
	l := m.lists(1001)
	if got := crypto.Root(l[:1000]); got != refRoot(l[:1000]) {
		t.Errorf("Root of 1000 lists = %d", got)
	}
	if got := crypto.Path(l[:1000], 999); !slices.Equal(got, refPath(l[:1000], 999)) || len(got) != 10 {
		t.Errorf("Path in 1000 lists = %v", got)
	}
	if crypto.Root(l) != 0 || len(crypto.Path(l, 5)) > 0 {
		t.Error("a tree of 1001 lists")
	}
	for _, index := range []int{-1, 3, 4, math.MaxInt, math.MinInt} {
		if path := crypto.Path(l[:3], index); len(path) > 0 {
			t.Errorf("Path of %d = %v", index, path)
		}
	}
	if path := crypto.Path(l[:1], 0); len(path) > 0 || len(crypto.Path(nil, 0)) > 0 {
		t.Errorf("Path in one list = %v", path)
	}
	if path := crypto.Path(l[:3], 2); len(path) != 2 || path[0] != -1 {
		t.Errorf("Path of the last of three = %v", path)
	}
}

// P27.1, AA6: what is no climb.
func TestClimbErrors(t *testing.T) {
	long := slices.Repeat([]int{-1}, 21)
	for i, test := range []struct {
		index int
		path  []int
		ok    bool
	}{
		{0, nil, true}, {math.MaxInt, []int{-1, 0, 2147483646}, true}, {5, long[:20], true},
		{-1, nil, false}, {math.MinInt, nil, false}, {5, long, false}, {0, []int{-2}, false}, {0, []int{5, 2147483647}, false}, {0, []int{math.MinInt}, false}, {0, []int{math.MaxInt, 5}, false},
	} {
		h, lists := crypto.Climb([]int{4}, test.index, test.path)
		want, wantLists := 0, [][]int(nil)
		if test.ok {
			want, wantLists = refClimb([]int{4}, test.index, test.path)
		}
		if h != want || !same(lists, wantLists) {
			t.Errorf("%d: Climb = %d, %v, want %d, %v", i, h, lists, want, wantLists)
		}
	}
}

// P27.1: random numbers and lists, against the definitions.
func TestRandom(t *testing.T) {
	m := maker{rand.New(rand.NewSource(2))}
	for range 3000 {
		l, a, b := m.list(), m.number(), m.number()
		if got, want := crypto.Sum(l), refSum(l...); got != want {
			t.Fatalf("Sum(%v) = %d, want %d", l, got, want)
		}
		if got, want := crypto.Tag(a, l), refTag(a, l); got != want {
			t.Fatalf("Tag(%d, %v) = %d, want %d", a, l, got, want)
		}
		if got, want := crypto.Public(a), refPower(7, a); got != want {
			t.Fatalf("Public(%d) = %d, want %d", a, got, want)
		}
		if got, want := crypto.Shared(a, b), refPower(b, a); got != want {
			t.Fatalf("Shared(%d, %d) = %d, want %d", a, b, got, want)
		}
		lists := m.lists(m.Intn(20))
		if got, want := crypto.Root(lists), refRoot(lists); got != want {
			t.Fatalf("Root(%v) = %d, want %d", lists, got, want)
		}
		for i := range lists {
			if got, want := crypto.Path(lists, i), refPath(lists, i); !slices.Equal(got, want) {
				t.Fatalf("Path(%v, %d) = %v, want %v", lists, i, got, want)
			}
		}
		var path []int
		for range m.Intn(5) {
			path = append(path, []int{-1, m.Intn(2147483647)}[m.Intn(2)])
		}
		index := m.Intn(40)
		h, climbed := crypto.Climb(l, index, path)
		want, wantLists := refClimb(l, index, path)
		if h != want || !same(climbed, wantLists) {
			t.Fatalf("Climb(%v, %d, %v) = %d, %v, want %d, %v", l, index, path, h, climbed, want, wantLists)
		}
	}
}

// P3: equal arguments yield equal results, arguments stay as they are, and results share no memory.
func TestIndependence(t *testing.T) {
	m := maker{rand.New(rand.NewSource(3))}
	for range 300 {
		lists := m.lists(1 + m.Intn(9))
		spare := append(make([]int, 0, 40), lists[0]...)
		before := fmt.Sprint(lists, spare[:40])
		path := crypto.Path(lists, 0)
		_, climbed := crypto.Climb(lists[0], 0, path)
		text := fmt.Sprint(path, climbed)
		crypto.Tag(4, spare)
		crypto.Sum(spare)
		crypto.Climb(spare, 0, path)
		for _, l := range climbed {
			for i := range l {
				l[i] = 5
			}
		}
		for i := range path {
			path[i] = 5
		}
		again := crypto.Path(lists, 0)
		_, climbedAgain := crypto.Climb(lists[0], 0, again)
		if fmt.Sprint(again, climbedAgain) != text || fmt.Sprint(lists, spare[:40]) != before {
			t.Fatalf("%s: %s", before, text)
		}
	}
}
