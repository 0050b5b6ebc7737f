package capability_test

import (
	"math/rand"
	"slices"
	"testing"

	"domicile/api"
	"domicile/capability"
	"domicile/crypto"
)

// P34.2, P34.3: a narrowed capability is genuine, and permits only less.
func TestNarrowing(t *testing.T) {
	m := maker{rand.New(rand.NewSource(342))}
	less := 0
	for range 3000 {
		key := m.Intn(maxTag + 1)
		c := m.capability(key)
		v := m.caveat()
		d, err := capability.Narrow(c, v)
		if len(c.Caveats) == 12 {
			if err != api.ErrFull {
				t.Fatalf("Narrow(%v) = %d", c, err)
			}
			continue
		}
		if err != api.OK || !capability.Genuine(key, d) || d.Id != c.Id || !slices.Equal(d.Caveats, append(slices.Clone(c.Caveats), v)) {
			t.Fatalf("Narrow(%v, %v) = %v, %d", c, v, d, err)
		}
		if !slices.Equal(capability.Chain(key, d), append(capability.Chain(key, c), d.Tag)) {
			t.Fatalf("the chain of %v is %v", d, capability.Chain(key, d))
		}
		for range 10 {
			a, used := m.ask()
			before, one, now := capability.Permits(c, a, used), capability.Permits(api.Cap{Caveats: []api.Caveat{v}}, a, used), capability.Permits(d, a, used)
			if (now == api.OK) != (before == api.OK && one == api.OK) {
				t.Fatalf("%v permits %v: %d; with %v: %d", c, a, before, v, now)
			}
			if before == api.OK && now != api.OK {
				less++
			}
		}
	}
	if less < 1000 {
		t.Errorf("only %d requests are not permitted any more", less)
	}
}

// collide says whether two different lists have the same digest.
func collide(lists [][]int) bool {
	known := map[int][]int{}
	for _, l := range lists {
		h := crypto.Sum(l)
		if other, ok := known[h]; ok && !slices.Equal(other, l) {
			return true
		}
		known[h] = l
	}
	return false
}

// P34.4, P34.5: other caveats with the same tag, or another key, show two lists with the same digest.
func TestForging(t *testing.T) {
	m := maker{rand.New(rand.NewSource(344))}
	refused, forged := 0, 0
	for range 5000 {
		key := m.Intn(maxTag + 1)
		c := m.capability(key)
		other, under := m.change(c), key
		other.Tag = c.Tag
		if m.chance(4) {
			under = m.Intn(maxTag + 1)
		}
		if n := len(c.Caveats); n > 0 && m.chance(8) {
			// The digest is weak: with a smaller kind there is a value that has the same tag.
			other, under = c, key
			other.Caveats = slices.Clone(c.Caveats)
			other.Caveats[n-1].Kind--
			other.Caveats[n-1].Value += 1000003
		}
		if under == key && same(other, c) || !refCap(other) {
			continue
		}
		if !capability.Genuine(under, other) {
			refused++
			continue
		}
		forged++
		if !collide(append(refLists(key, c), refLists(under, other)...)) {
			t.Fatalf("%v under %d, and %v under %d", c, key, other, under)
		}
	}
	if refused < 2000 || forged < 100 {
		t.Errorf("the test covers too little: %d, %d", refused, forged)
	}
	if capability.Genuine(6, capability.Mint(5, 1)) {
		t.Error("a capability is genuine under another key")
	}
}

// P34.6: the order of caveats and repeated ones do not matter.
func TestOrder(t *testing.T) {
	m := maker{rand.New(rand.NewSource(346))}
	permitted := 0
	for range 3000 {
		c := m.capability(5)
		d := c
		d.Caveats = slices.Clone(c.Caveats)
		m.Shuffle(len(d.Caveats), func(i, j int) { d.Caveats[i], d.Caveats[j] = d.Caveats[j], d.Caveats[i] })
		if n := len(d.Caveats); n > 0 && n < 12 {
			d.Caveats = append(d.Caveats, d.Caveats[m.Intn(n)])
		}
		a, used := m.ask()
		x, y := capability.Permits(c, a, used), capability.Permits(d, a, used)
		if (x == api.OK) != (y == api.OK) {
			t.Fatalf("%v: %d, %v: %d", c, x, d, y)
		}
		if x == api.OK && len(c.Caveats) > 1 {
			permitted++
		}
	}
	if permitted < 100 {
		t.Errorf("only %d requests are permitted", permitted)
	}
}

// P34.7: fewer uses, and times in between, are permitted as well.
func TestTimes(t *testing.T) {
	m := maker{rand.New(rand.NewSource(347))}
	checked := 0
	for range 20000 {
		c := m.capability(5)
		a, used := m.ask()
		later := a
		later.Time += m.Intn(50)
		if capability.Permits(c, a, used) != api.OK || capability.Permits(c, later, used) != api.OK {
			continue
		}
		checked++
		a.Time += m.Intn(later.Time - a.Time + 1)
		if got := capability.Permits(c, a, m.Intn(min(used, 100)+1)); got != api.OK {
			t.Fatalf("%v: %d for %v", c, got, a)
		}
	}
	if checked < 1000 {
		t.Errorf("only %d requests", checked)
	}
}
