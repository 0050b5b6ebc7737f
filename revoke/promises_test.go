package revoke_test

import (
	"math/rand"
	"slices"
	"testing"

	"domicile/api"
	"domicile/capability"
	"domicile/revoke"
)

// P35.2: a set has an added tag, and all others as before.
func TestAdding(t *testing.T) {
	m := maker{rand.New(rand.NewSource(352))}
	for range 500 {
		r := set()
		for range 30 {
			tag := m.Intn(40)
			next, err := revoke.Add(r, tag)
			again, _ := revoke.Add(next, tag)
			if err != api.OK || !refValid(next) || !same(next, again) {
				t.Fatalf("Add(%v, %d) = %v, %d", r, tag, next, err)
			}
			for other := range 40 {
				if revoke.Has(next, other) != (other == tag || revoke.Has(r, other)) {
					t.Fatalf("Add(%v, %d) = %v", r, tag, next)
				}
			}
			r = next
		}
	}
}

func merged(t *testing.T, a, b api.Revoked) api.Revoked {
	t.Helper()
	r, err := revoke.Merge(a, b)
	if err != api.OK {
		t.Fatalf("Merge(%v, %v) = %d", a, b, err)
	}
	return r
}

// some returns a small well-formed set.
func (m maker) some() api.Revoked {
	r := set()
	for range m.Intn(12) {
		r, _ = revoke.Add(r, m.Intn(30))
	}
	return r
}

// P35.3: merging does not depend on order and grouping, and has exactly the tags of both.
func TestMerging(t *testing.T) {
	m := maker{rand.New(rand.NewSource(353))}
	for range 1000 {
		a, b, c := m.some(), m.some(), m.some()
		ab := merged(t, a, b)
		if !same(ab, merged(t, b, a)) || !same(merged(t, ab, c), merged(t, a, merged(t, b, c))) || !same(merged(t, a, a), a) || !refValid(ab) {
			t.Fatalf("%v, %v, %v", a, b, c)
		}
		for tag := range 30 {
			if revoke.Has(ab, tag) != (revoke.Has(a, tag) || revoke.Has(b, tag)) {
				t.Fatalf("Merge(%v, %v) = %v", a, b, ab)
			}
		}
	}
}

// P35.4: tags in any order, in different sets that are merged, yield the same set.
func TestAnyOrder(t *testing.T) {
	m := maker{rand.New(rand.NewSource(354))}
	for range 500 {
		var tags []int
		for range m.Intn(20) {
			tags = append(tags, m.Intn(50))
		}
		all := set()
		for _, tag := range tags {
			all, _ = revoke.Add(all, tag)
		}
		parts := []api.Revoked{set(), set(), set()}
		for _, i := range m.Perm(len(tags)) {
			k := m.Intn(3)
			parts[k], _ = revoke.Add(parts[k], tags[i])
		}
		if got := merged(t, parts[2], merged(t, parts[0], parts[1])); !same(got, all) {
			t.Fatalf("%v in parts: %v, want %v", tags, got, all)
		}
	}
}

// P35.5: revoking a tag revokes exactly those whose chain has it, and all that is narrowed from them.
func TestNarrowing(t *testing.T) {
	m := maker{rand.New(rand.NewSource(355))}
	revoked, other := 0, 0
	for range 3000 {
		c, a := m.guest(5)
		d, _ := m.guest(5)
		r := m.some()
		chain := capability.Chain(5, d)
		if m.chance(2) {
			chain = capability.Chain(5, c)
		}
		r, _ = revoke.Add(r, chain[m.Intn(len(chain))])
		is := slices.ContainsFunc(capability.Chain(5, c), func(tag int) bool { return slices.Contains(r.Tags, tag) })
		if got := revoke.Check(5, r, c, a, 0); (got == api.ErrRevoked) != is {
			t.Fatalf("Check of %v with %v = %d", c, r, got)
		}
		if !is {
			other++
			continue
		}
		revoked++
		n, err := capability.Narrow(c, api.Caveat{Kind: 1 + m.Intn(5), Value: m.Intn(5)})
		if got := revoke.Check(5, r, n, a, 0); err != api.OK || got != api.ErrRevoked {
			t.Fatalf("Check of %v with %v = %d, %d", n, r, got, err)
		}
	}
	if revoked < 1000 || other < 500 {
		t.Errorf("the test covers too little: %d, %d", revoked, other)
	}
}

// P35.6: with more revoked tags nothing more is permitted; without any, Check is that of capability.
func TestMoreIsLess(t *testing.T) {
	m := maker{rand.New(rand.NewSource(356))}
	less := 0
	for range 3000 {
		key := 5 + m.Intn(6)/5
		c, a := m.guest(5)
		if got, want := revoke.Check(key, set(), c, a, 0), capability.Check(key, c, a, 0); got != want {
			t.Fatalf("Check of %v = %d, want %d", c, got, want)
		}
		r := m.some()
		more := merged(t, r, m.some())
		if m.chance(2) {
			more, _ = revoke.Add(more, c.Tag)
		}
		before, after := revoke.Check(key, r, c, a, 0), revoke.Check(key, more, c, a, 0)
		if before != api.OK && after == api.OK {
			t.Fatalf("%v: %d with %v, %d with %v", c, before, r, after, more)
		}
		if before == api.OK && after != api.OK {
			less++
		}
	}
	if less < 300 {
		t.Errorf("only %d requests are refused", less)
	}
}
