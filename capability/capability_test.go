package capability_test

import (
	"fmt"
	"math"
	"math/rand"
	"slices"
	"testing"

	"domicile/api"
	"domicile/capability"
	"domicile/crypto"
)

func same(a, b any) bool { return fmt.Sprintf("%+v", a) == fmt.Sprintf("%+v", b) }

// narrowed returns a capability with further caveats.
func narrowed(t *testing.T, c api.Cap, l ...api.Caveat) api.Cap {
	t.Helper()
	for _, v := range l {
		next, err := capability.Narrow(c, v)
		if err != api.OK {
			t.Fatalf("Narrow(%v, %v) = %d", c, v, err)
		}
		c = next
	}
	return c
}

// P34.1: the examples of the chapter.
func TestExamples(t *testing.T) {
	c := narrowed(t, capability.Mint(9, 5), api.Caveat{Kind: api.CavRoom, Value: 2}, api.Caveat{Kind: api.CavBefore, Value: 100}, api.Caveat{Kind: api.CavUses, Value: 2})
	chain := capability.Chain(9, c)
	if len(chain) != 4 || chain[3] != c.Tag || chain[0] != crypto.Tag(9, []int{5}) || chain[1] != crypto.Tag(chain[0], []int{1, 2}) || !capability.Genuine(9, c) {
		t.Errorf("Chain = %v of %v", chain, c)
	}
	less := c
	less.Caveats = c.Caveats[:2]
	for i, test := range []struct {
		c    api.Cap
		a    api.Ask
		used int
		want api.Errno
	}{
		{c, api.Ask{Room: 2, Time: 99}, 1, api.OK}, {c, api.Ask{Room: 2, Time: 100}, 1, api.ErrTime}, {c, api.Ask{Room: 3, Time: 99}, 1, api.ErrRight}, {c, api.Ask{Room: 2, Time: 99}, 2, api.ErrUses},
		{c, api.Ask{Room: 3, Time: 100}, 1, api.ErrRight}, {c, api.Ask{Room: 2, Time: 100}, 2, api.ErrTime}, {less, api.Ask{Room: 2, Time: 99}, 1, api.ErrTag}, {less, api.Ask{Room: 3, Time: 99}, 1, api.ErrTag},
	} {
		if got := capability.Check(9, test.c, test.a, test.used); got != test.want {
			t.Errorf("%d: Check = %d, want %d", i, got, test.want)
		}
	}
	if got := capability.Permits(less, api.Ask{Room: 2, Time: 99}, 5); got != api.OK {
		t.Errorf("Permits = %d", got)
	}
	if len(capability.Chain(9, less)) > 0 || capability.Genuine(9, less) || capability.Genuine(8, c) || len(capability.Chain(8, c)) > 0 {
		t.Error("a capability that is not genuine")
	}
}

// P34.1: each kind of caveat at its limits.
func TestCaveats(t *testing.T) {
	for i, test := range []struct {
		kind, value int
		a           api.Ask
		used        int
		want        api.Errno
	}{
		{api.CavRoom, 3, api.Ask{Room: 3, Var: 9}, 0, api.OK}, {api.CavRoom, 3, api.Ask{Room: 9, Var: 3}, 0, api.ErrRight}, {api.CavVar, 3, api.Ask{Room: 9, Var: 3}, 0, api.OK}, {api.CavVar, 3, api.Ask{Room: 3, Var: 9}, 0, api.ErrRight},
		{api.CavAfter, 3, api.Ask{Time: 3}, 0, api.OK}, {api.CavAfter, 3, api.Ask{Time: 2}, 9, api.ErrTime}, {api.CavBefore, 3, api.Ask{Time: 2}, 9, api.OK}, {api.CavBefore, 3, api.Ask{Time: 3}, 0, api.ErrTime},
		{api.CavUses, 3, api.Ask{Time: 9}, 2, api.OK}, {api.CavUses, 3, api.Ask{}, 3, api.ErrUses}, {api.CavUses, 0, api.Ask{}, 0, api.ErrUses}, {api.CavBefore, 0, api.Ask{}, 0, api.ErrTime},
	} {
		c := narrowed(t, capability.Mint(4, 1), api.Caveat{Kind: test.kind, Value: test.value})
		if got := capability.Check(4, c, test.a, test.used); got != test.want || capability.Permits(c, test.a, test.used) != got {
			t.Errorf("%d: Check = %d, want %d", i, got, test.want)
		}
	}
}

// P34.1: limits, errors, and their order.
func TestLimits(t *testing.T) {
	for _, test := range []struct{ key, id int }{{-1, 5}, {maxTag + 1, 5}, {math.MinInt, 5}, {5, -1}, {5, 1000001}, {5, math.MaxInt}} {
		if c := capability.Mint(test.key, test.id); !same(c, api.Cap{}) {
			t.Errorf("Mint(%d, %d) = %v", test.key, test.id, c)
		}
	}
	c := capability.Mint(maxTag, 1000000)
	if !same(c, api.Cap{Id: 1000000, Tag: crypto.Tag(maxTag, []int{1000000})}) || !capability.Genuine(0, capability.Mint(0, 0)) {
		t.Errorf("Mint = %v", c)
	}
	full := narrowed(t, c, slices.Repeat([]api.Caveat{{Kind: api.CavUses, Value: 1000000000}}, 12)...)
	ask := api.Ask{Room: 1000000, Var: 1000000, Value: 15, Time: 1000000000}
	if capability.Check(maxTag, full, ask, 999999999) != api.OK || capability.Check(maxTag, full, ask, 1000000000) != api.ErrUses {
		t.Error("a full capability")
	}
	more := full
	more.Caveats = append(slices.Clone(full.Caveats), full.Caveats[0])
	negative, big := c, c
	negative.Tag, big.Tag = -1, maxTag+1
	for i, bad := range []api.Cap{more, negative, big, {Id: -1}, {Id: 1000001}, {Caveats: []api.Caveat{{}}}, {Caveats: []api.Caveat{{Kind: 6}}}, {Caveats: []api.Caveat{{Kind: -1}}}, {Caveats: []api.Caveat{{Kind: 1, Value: -1}}}, {Caveats: []api.Caveat{{Kind: 1, Value: 1000000001}}}} {
		d, err := capability.Narrow(bad, api.Caveat{Kind: 1})
		if err != api.ErrArg || !same(d, api.Cap{}) || capability.Genuine(maxTag, bad) || capability.Permits(bad, ask, 0) != api.ErrArg || capability.Check(maxTag, bad, ask, 0) != api.ErrArg {
			t.Errorf("%d: a capability that is not well-formed: %v, %d", i, d, err)
		}
	}
	for _, v := range []api.Caveat{{}, {Kind: 6}, {Kind: 1, Value: -1}, {Kind: 5, Value: 1000000001}, {Kind: math.MinInt}} {
		for _, c := range []api.Cap{c, full} {
			if d, err := capability.Narrow(c, v); err != api.ErrArg || !same(d, api.Cap{}) {
				t.Errorf("Narrow with %v = %v, %d", v, d, err)
			}
		}
	}
	if d, err := capability.Narrow(full, api.Caveat{Kind: 1}); err != api.ErrFull || !same(d, api.Cap{}) {
		t.Errorf("Narrow = %v, %d", d, err)
	}
	forged := c
	forged.Tag ^= 1
	for i, a := range []api.Ask{{Room: -1}, {Room: 1000001}, {Var: -1}, {Var: 1000001}, {Value: -1}, {Value: 16}, {Time: -1}, {Time: 1000000001}} {
		if capability.Permits(c, a, 0) != api.ErrArg || capability.Check(maxTag, c, a, 0) != api.ErrArg || capability.Check(maxTag, forged, a, 0) != api.ErrArg {
			t.Errorf("%d: a request that is not well-formed", i)
		}
	}
	for _, used := range []int{-1, 1000000001, math.MinInt, math.MaxInt} {
		if capability.Permits(c, ask, used) != api.ErrArg || capability.Check(maxTag, forged, ask, used) != api.ErrArg {
			t.Errorf("%d uses", used)
		}
	}
	for _, key := range []int{-1, maxTag + 1, math.MinInt} {
		if capability.Check(key, c, ask, 0) != api.ErrArg || capability.Genuine(key, c) || len(capability.Chain(key, c)) > 0 || capability.Check(key, full, ask, 1000000000) != api.ErrArg {
			t.Errorf("the key %d", key)
		}
	}
}

// P34.1: random capabilities and requests, against the definitions.
func TestRandom(t *testing.T) {
	m := maker{rand.New(rand.NewSource(1))}
	count := map[api.Errno]int{}
	for range 20000 {
		key := m.key()
		c := m.capability(key)
		if m.chance(4) {
			c = m.change(c)
		}
		a, used := m.ask()
		want := refPermits(c, a, used)
		if got := capability.Permits(c, a, used); got != want {
			t.Fatalf("Permits(%v, %v, %d) = %d, want %d", c, a, used, got, want)
		}
		genuine := refGenuine(key, c)
		if got := capability.Genuine(key, c); got != genuine {
			t.Fatalf("Genuine(%d, %v) = %v", key, c, got)
		}
		var chain []int
		if genuine {
			chain = refChain(key, c)
		}
		if got := capability.Chain(key, c); !slices.Equal(got, chain) {
			t.Fatalf("Chain(%d, %v) = %v, want %v", key, c, got, chain)
		}
		if key < 0 || key > maxTag {
			want = api.ErrArg
		}
		if want != api.ErrArg && !genuine {
			want = api.ErrTag
		}
		if got := capability.Check(key, c, a, used); got != want {
			t.Fatalf("Check(%d, %v, %v, %d) = %d, want %d", key, c, a, used, got, want)
		}
		count[want]++
	}
	for _, err := range []api.Errno{api.OK, api.ErrArg, api.ErrTag, api.ErrRight, api.ErrTime, api.ErrUses} {
		if count[err] < 1000 {
			t.Errorf("the test covers too little: %v", count)
		}
	}
}

// P3: equal arguments yield equal results, arguments stay as they are, and results share no memory.
func TestIndependence(t *testing.T) {
	m := maker{rand.New(rand.NewSource(2))}
	for range 500 {
		c := m.capability(7)
		c.Caveats = append(make([]api.Caveat, 0, 20), c.Caveats...)
		before := fmt.Sprint(c, c.Caveats[:20])
		first, err := capability.Narrow(c, api.Caveat{Kind: 1})
		text := fmt.Sprint(first, err)
		for i := range first.Caveats {
			first.Caveats[i].Value = 99
		}
		chain := capability.Chain(7, c)
		for i := range chain {
			chain[i] = 1
		}
		second, err := capability.Narrow(c, api.Caveat{Kind: 1})
		if fmt.Sprint(second, err) != text || fmt.Sprint(c, c.Caveats[:20]) != before {
			t.Fatalf("%s: %s and %v", before, text, second)
		}
	}
}
