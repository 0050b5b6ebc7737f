package crypto_test

import (
	"math/rand"
	"slices"
	"testing"

	"domicile/crypto"
)

// P27.2: a longer list is computed from its beginning; another remainder is another digest.
func TestDigests(t *testing.T) {
	m := maker{rand.New(rand.NewSource(272))}
	equal := 0
	for range 2000 {
		l := append(m.list(), m.number())
		n := len(l) - 1
		h := (crypto.Sum(l[:n])*1000003 + int(mod(l[n]).Int64()) + 1) % 2147483647
		if got := crypto.Sum(l); got != h || got < 0 || got > 2147483646 {
			t.Fatalf("Sum(%v) = %d, want %d", l, got, h)
		}
		other, i := slices.Clone(l), m.Intn(len(l))
		other[i] = m.number()
		if m.chance(3) && l[i] < 1<<60 {
			other[i] = l[i] + 2147483647*m.Intn(3)
		}
		alike := mod(l[i]).Cmp(mod(other[i])) == 0
		if (crypto.Sum(l) == crypto.Sum(other)) != alike {
			t.Fatalf("Sum of %v and %v", l, other)
		}
		if alike {
			equal++
		}
	}
	if equal < 100 || equal > 1900 {
		t.Errorf("%d of 2000 are equal", equal)
	}
}

// P27.3: another key or number is another tag; tags are digests.
func TestTags(t *testing.T) {
	m := maker{rand.New(rand.NewSource(273))}
	for range 2000 {
		key, l := m.number(), append(m.list(), m.number())
		tag := crypto.Tag(key, l)
		if tag != crypto.Sum(slices.Concat([]int{key, len(l)}, l)) {
			t.Fatalf("Tag(%d, %v) is not the digest", key, l)
		}
		if other := m.number(); (crypto.Tag(other, l) == tag) != (mod(other).Cmp(mod(key)) == 0) {
			t.Fatalf("Tag of %v with %d and %d", l, key, other)
		}
		changed, i := slices.Clone(l), m.Intn(len(l))
		changed[i] = m.number()
		if (crypto.Tag(key, changed) == tag) != (mod(changed[i]).Cmp(mod(l[i])) == 0) {
			t.Fatalf("Tag of %v and %v with %d", l, changed, key)
		}
	}
	// The number of the numbers is part of the tag.
	if crypto.Tag(3, []int{0}) == crypto.Sum([]int{3, 0}) || crypto.Tag(3, nil) == crypto.Tag(3, []int{0}) {
		t.Error("tags of different lengths")
	}
}

// P27.4: both sides compute the same key; sums of secrets have products of public numbers.
func TestKeys(t *testing.T) {
	m := maker{rand.New(rand.NewSource(274))}
	for range 2000 {
		a, b := m.number(), m.number()
		if crypto.Shared(a, crypto.Public(b)) != crypto.Shared(b, crypto.Public(a)) {
			t.Fatalf("the keys of %d and %d differ", a, b)
		}
		a, b = a/2, b/2
		if product := crypto.Public(a) * crypto.Public(b) % 2147483647; product != crypto.Public(a+b) {
			t.Fatalf("Public(%d + %d) is not %d", a, b, product)
		}
	}
}

// P27.5: roots of small trees, and of trees of two parts.
func TestTrees(t *testing.T) {
	m := maker{rand.New(rand.NewSource(275))}
	for range 200 {
		power := 1 << m.Intn(6)
		l := m.lists(power + 1 + m.Intn(power))
		if crypto.Root(l[:1]) != crypto.Sum([]int{0, crypto.Sum(l[0])}) {
			t.Fatalf("the root of %v is not its leaf", l[:1])
		}
		if crypto.Root(l) != crypto.Sum([]int{1, crypto.Root(l[:power]), crypto.Root(l[power:])}) {
			t.Fatalf("the root of %v does not consist of two parts, %d and the rest", l, power)
		}
	}
}

// P27.6, P27.8: climbing from a list, or from one that replaces it, yields the root.
func TestPaths(t *testing.T) {
	m := maker{rand.New(rand.NewSource(276))}
	changed := 0
	for range 300 {
		l := m.lists(1 + m.Intn(40))
		root := crypto.Root(l)
		for i := range l {
			path := crypto.Path(l, i)
			if got, _ := crypto.Climb(l[i], i, path); got != root {
				t.Fatalf("Climb from %d of %v = %d, want %d", i, l, got, root)
			}
			other := slices.Clone(l)
			other[i] = m.list()
			now := crypto.Root(other)
			if got, _ := crypto.Climb(other[i], i, path); got != now {
				t.Fatalf("Climb from the new %d of %v = %d, want %d", i, other, got, now)
			}
			if crypto.Sum(other[i]) != crypto.Sum(l[i]) {
				if changed++; now == root {
					t.Fatalf("%v and %v have the same root", l, other)
				}
			}
		}
	}
	if changed < 1000 {
		t.Errorf("only %d lists changed", changed)
	}
}

// collide says whether two different lists have the same digest.
func collide(lists [][]int) bool {
	known := map[int][]int{}
	for _, l := range lists {
		h := crypto.Sum(l)
		if other, ok := known[h]; ok && !slices.Equal(other, l) {
			return true
		}
		known[h] = l
	}
	return false
}

// P27.7: who climbs to the root has one of the lists, or shows two lists with the same digest.
func TestProofs(t *testing.T) {
	m := maker{rand.New(rand.NewSource(277))}
	genuine, forged := 0, 0
	for range 3000 {
		l := m.lists(1 + m.Intn(6))
		index := m.Intn(len(l))
		path := crypto.Path(l, index)
		list := l[index]
		switch m.Intn(4) {
		case 0:
			if len(list) > 1 {
				list = twin(list)
			}
		case 1:
			index += 1 << len(path) * m.Intn(2)
		case 2:
			list = l[m.Intn(len(l))]
		case 3:
			// A node of the tree can be shown as a list only if its digest is that of a leaf.
			if len(path) > 0 && path[0] != -1 {
				list, path = []int{1, path[0], path[0]}, path[1:]
			}
		}
		h, climbed := crypto.Climb(list, index, path)
		if h != crypto.Root(l) {
			continue
		}
		if slices.ContainsFunc(l, func(o []int) bool { return slices.Equal(o, list) }) {
			genuine++
			continue
		}
		if forged++; !collide(append(climbed, treeLists(l)...)) {
			t.Fatalf("%v is not in %v, but climbs to its root by %v from %d", list, l, path, index)
		}
	}
	if genuine < 500 || forged < 100 {
		t.Errorf("the test covers too little: %d, %d", genuine, forged)
	}
}
