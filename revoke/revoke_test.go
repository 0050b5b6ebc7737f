package revoke_test

import (
	"fmt"
	"math"
	"math/rand"
	"slices"
	"sort"
	"testing"

	"domicile/api"
	"domicile/capability"
	"domicile/revoke"
)

const maxTag = 2147483646

func same(a, b any) bool { return fmt.Sprintf("%+v", a) == fmt.Sprintf("%+v", b) }

func set(tags ...int) api.Revoked { return api.Revoked{Tags: tags} }

// full returns a set of 400 even tags.
func full() api.Revoked {
	var r api.Revoked
	for i := range 400 {
		r.Tags = append(r.Tags, 2*i)
	}
	return r
}

// refValid follows the definition.
func refValid(r api.Revoked) bool {
	for i, tag := range r.Tags {
		if tag < 0 || tag > maxTag || i > 0 && r.Tags[i-1] >= tag {
			return false
		}
	}
	return len(r.Tags) <= 400
}

// refMerge collects the tags of both sets.
func refMerge(a, b api.Revoked) (api.Revoked, api.Errno) {
	if !refValid(a) || !refValid(b) {
		return api.Revoked{}, api.ErrArg
	}
	known := map[int]bool{}
	var l []int
	for _, tag := range append(slices.Clone(a.Tags), b.Tags...) {
		if !known[tag] {
			known[tag] = true
			l = append(l, tag)
		}
	}
	sort.Ints(l)
	if len(l) > 400 {
		return api.Revoked{}, api.ErrFull
	}
	return api.Revoked{Tags: l}, api.OK
}

// maker makes up sets and capabilities.
type maker struct{ *rand.Rand }

func (m maker) chance(n int) bool { return m.Intn(n) == 0 }

// set returns a set of tags below a limit, mostly well-formed.
func (m maker) set(below int) api.Revoked {
	known := map[int]bool{}
	n := m.Intn(8)
	if m.chance(4) {
		n = 200 + m.Intn(202)
	}
	for range n {
		known[m.Intn(below)] = true
	}
	var l []int
	for tag := range known {
		l = append(l, tag)
	}
	sort.Ints(l)
	if len(l) > 1 && m.chance(10) {
		i := m.Intn(len(l))
		l[i] = []int{l[0], -1, maxTag + 1, l[len(l)-1]}[m.Intn(4)]
	}
	return api.Revoked{Tags: l}
}

// guest returns a genuine capability and a request, which it often permits.
func (m maker) guest(key int) (api.Cap, api.Ask) {
	c := capability.Mint(key, m.Intn(1000))
	for range m.Intn(4) {
		c, _ = capability.Narrow(c, api.Caveat{Kind: api.CavRoom + m.Intn(2), Value: m.Intn(2) * m.Intn(2)})
	}
	return c, api.Ask{Room: m.Intn(6) / 5, Var: m.Intn(6) / 5}
}

// P35.1: the examples of the chapter.
func TestExamples(t *testing.T) {
	c := capability.Mint(5, 1)
	d, _ := capability.Narrow(c, api.Caveat{Kind: api.CavRoom, Value: 2})
	for i, test := range []struct {
		r    api.Revoked
		c    api.Cap
		room int
		want api.Errno
	}{
		{set(), c, 3, api.OK}, {set(), d, 2, api.OK}, {set(), d, 3, api.ErrRight}, {set(d.Tag), c, 3, api.OK}, {set(d.Tag), d, 2, api.ErrRevoked}, {set(c.Tag), c, 3, api.ErrRevoked}, {set(c.Tag), d, 2, api.ErrRevoked},
		{set(c.Tag), d, 3, api.ErrRevoked}, {set(0, maxTag), d, 2, api.OK},
	} {
		if got := revoke.Check(5, test.r, test.c, api.Ask{Room: test.room}, 0); got != test.want {
			t.Errorf("%d: Check = %d, want %d", i, got, test.want)
		}
	}
}

// P35.1: sets that are not well-formed.
func TestSets(t *testing.T) {
	long := full()
	long.Tags = append(long.Tags, maxTag)
	c := capability.Mint(5, 1)
	for i, test := range []struct {
		r  api.Revoked
		ok bool
	}{
		{set(), true}, {set(0, 1, maxTag), true}, {full(), true}, {long, false}, {set(-1), false}, {set(maxTag + 1), false}, {set(3, 3), false}, {set(3, 2), false}, {set(math.MinInt), false}, {set(2, math.MaxInt), false}, {set(2, -5), false},
	} {
		_, err := revoke.Merge(test.r, set())
		_, back := revoke.Merge(set(), test.r)
		_, add := revoke.Add(test.r, 0)
		check := revoke.Check(5, test.r, c, api.Ask{}, 0)
		for _, err := range []api.Errno{err, back, add, check} {
			if (err == api.OK) != test.ok || !test.ok && err != api.ErrArg {
				t.Errorf("%d: %d with %v", i, err, test.r)
			}
		}
		for _, tag := range test.r.Tags {
			if revoke.Has(test.r, tag) != test.ok {
				t.Errorf("%d: Has(%d) = %v", i, tag, !test.ok)
			}
		}
	}
}

// P35.1: full sets, and what is no tag.
func TestAdd(t *testing.T) {
	for i, test := range []struct {
		r    api.Revoked
		tag  int
		want []int
		err  api.Errno
	}{
		{set(), 0, []int{0}, api.OK}, {set(), maxTag, []int{maxTag}, api.OK}, {set(3, 7), 5, []int{3, 5, 7}, api.OK}, {set(3, 7), 1, []int{1, 3, 7}, api.OK}, {set(3, 7), 9, []int{3, 7, 9}, api.OK}, {set(3, 7), 7, []int{3, 7}, api.OK},
		{set(3), -1, nil, api.ErrArg}, {set(3), maxTag + 1, nil, api.ErrArg}, {set(3), math.MinInt, nil, api.ErrArg}, {set(5, 3), 7, nil, api.ErrArg}, {set(5, 3), 5, nil, api.ErrArg},
		{full(), 7, nil, api.ErrFull}, {full(), maxTag, nil, api.ErrFull}, {full(), 798, full().Tags, api.OK}, {full(), -1, nil, api.ErrArg},
	} {
		if got, err := revoke.Add(test.r, test.tag); err != test.err || !same(got, api.Revoked{Tags: test.want}) {
			t.Errorf("%d: Add(%v, %d) = %v, %d", i, test.r, test.tag, got, err)
		}
	}
	if got, err := revoke.Merge(full(), full()); err != api.OK || !same(got, full()) {
		t.Errorf("Merge = %v, %d", got, err)
	}
	if got, err := revoke.Merge(full(), set(4, 5)); err != api.ErrFull || !same(got, api.Revoked{}) {
		t.Errorf("Merge = %v, %d", got, err)
	}
	if got, err := revoke.Merge(full(), set(5, 4)); err != api.ErrArg || !same(got, api.Revoked{}) {
		t.Errorf("Merge = %v, %d", got, err)
	}
}

// P35.1: the errors of Check, and their order.
func TestCheckErrors(t *testing.T) {
	c := capability.Mint(5, 1)
	used, _ := capability.Narrow(c, api.Caveat{Kind: api.CavUses})
	forged := c
	forged.Tag ^= 1
	bad := set(3, 2)
	for i, test := range []struct {
		key  int
		r    api.Revoked
		c    api.Cap
		a    api.Ask
		used int
		want api.Errno
	}{
		{5, bad, forged, api.Ask{}, 0, api.ErrArg}, {-1, set(), c, api.Ask{}, 0, api.ErrArg}, {5, set(), api.Cap{Id: -1}, api.Ask{}, 0, api.ErrArg}, {5, set(c.Tag), c, api.Ask{Room: -1}, 0, api.ErrArg}, {5, set(c.Tag), c, api.Ask{}, -1, api.ErrArg},
		{5, set(forged.Tag), forged, api.Ask{}, 0, api.ErrTag}, {6, set(c.Tag), c, api.Ask{}, 0, api.ErrTag}, {5, set(c.Tag), used, api.Ask{}, 0, api.ErrRevoked}, {5, set(), used, api.Ask{}, 0, api.ErrUses}, {5, bad, used, api.Ask{}, 0, api.ErrArg},
	} {
		if got := revoke.Check(test.key, test.r, test.c, test.a, test.used); got != test.want {
			t.Errorf("%d: Check = %d, want %d", i, got, test.want)
		}
	}
}

// P35.1 to P35.3: random sets, against the definitions.
func TestRandom(t *testing.T) {
	m := maker{rand.New(rand.NewSource(1))}
	count := map[api.Errno]int{}
	for range 5000 {
		below := []int{20, 1000, maxTag + 1}[m.Intn(3)]
		a, b, tag := m.set(below), m.set(below), m.Intn(below)
		want, wantErr := refMerge(a, b)
		got, err := revoke.Merge(a, b)
		if err != wantErr || !same(got, want) {
			t.Fatalf("Merge(%v, %v) = %v, %d, want %v, %d", a, b, got, err, want, wantErr)
		}
		count[err]++
		want, wantErr = refMerge(a, set(tag))
		if got, err := revoke.Add(a, tag); err != wantErr || !same(got, want) {
			t.Fatalf("Add(%v, %d) = %v, %d, want %v, %d", a, tag, got, err, want, wantErr)
		}
		for range 5 {
			if got := revoke.Has(a, tag); got != (refValid(a) && slices.Contains(a.Tags, tag)) {
				t.Fatalf("Has(%v, %d) = %v", a, tag, got)
			}
			if tag = m.Intn(below); len(a.Tags) > 0 && m.chance(2) {
				tag = a.Tags[m.Intn(len(a.Tags))]
			}
		}
	}
	if count[api.OK] < 1000 || count[api.ErrArg] < 200 || count[api.ErrFull] < 50 {
		t.Errorf("the test covers too little: %v", count)
	}
}

// P3: equal arguments yield equal results, arguments stay as they are, and results share no memory.
func TestIndependence(t *testing.T) {
	m := maker{rand.New(rand.NewSource(2))}
	for range 300 {
		a, b := m.set(1000), m.set(1000)
		if m.chance(3) {
			b = set()
		}
		a.Tags = append(make([]int, 0, 500), a.Tags...)
		before := fmt.Sprint(a, b, a.Tags[:500])
		for _, f := range []func() (api.Revoked, api.Errno){
			func() (api.Revoked, api.Errno) { return revoke.Merge(a, b) },
			func() (api.Revoked, api.Errno) { return revoke.Merge(b, a) },
			func() (api.Revoked, api.Errno) { return revoke.Add(a, 500) },
		} {
			first, err := f()
			text := fmt.Sprint(first, err)
			for i := range first.Tags {
				first.Tags[i] = -9
			}
			second, err := f()
			if fmt.Sprint(second, err) != text || fmt.Sprint(a, b, a.Tags[:500]) != before {
				t.Fatalf("%s: %s and %v", before, text, second)
			}
		}
	}
}
