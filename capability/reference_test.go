package capability_test

import (
	"math/rand"
	"slices"

	"domicile/api"
	"domicile/crypto"
)

const maxTag = 2147483646

func in(n, low, high int) bool { return n >= low && n <= high }

func refCap(c api.Cap) bool {
	for _, v := range c.Caveats {
		if !in(v.Kind, 1, 5) || !in(v.Value, 0, 1000000000) {
			return false
		}
	}
	return in(c.Id, 0, 1000000) && len(c.Caveats) <= 12 && in(c.Tag, 0, maxTag)
}

// refChain returns the tags of a key, an identifier and caveats, as digests of the lists in refLists.
func refChain(key int, c api.Cap) []int {
	var l []int
	for _, list := range refLists(key, c) {
		l = append(l, crypto.Sum(list))
	}
	return l
}

// refLists returns the lists whose digests are the chain.
func refLists(key int, c api.Cap) [][]int {
	l := [][]int{{key, 1, c.Id}}
	for i, v := range c.Caveats {
		l = append(l, []int{crypto.Sum(l[i]), 2, v.Kind, v.Value})
	}
	return l
}

func refGenuine(key int, c api.Cap) bool {
	if !in(key, 0, maxTag) || !refCap(c) {
		return false
	}
	l := refChain(key, c)
	return l[len(l)-1] == c.Tag
}

func refPermits(c api.Cap, a api.Ask, used int) api.Errno {
	if !refCap(c) || !in(a.Room, 0, 1000000) || !in(a.Var, 0, 1000000) || !in(a.Value, 0, 15) || !in(a.Time, 0, 1000000000) || !in(used, 0, 1000000000) {
		return api.ErrArg
	}
	for _, v := range c.Caveats {
		switch {
		case v.Kind == api.CavRoom && a.Room != v.Value, v.Kind == api.CavVar && a.Var != v.Value:
			return api.ErrRight
		case v.Kind == api.CavAfter && a.Time < v.Value, v.Kind == api.CavBefore && a.Time >= v.Value:
			return api.ErrTime
		case v.Kind == api.CavUses && used >= v.Value:
			return api.ErrUses
		}
	}
	return api.OK
}

// maker makes up capabilities and requests.
type maker struct{ *rand.Rand }

func (m maker) chance(n int) bool { return m.Intn(n) == 0 }

func (m maker) key() int {
	if m.chance(10) {
		return []int{0, maxTag, -1, maxTag + 1, 1<<63 - 1, -1 << 63}[m.Intn(6)]
	}
	return m.Intn(maxTag + 1)
}

func (m maker) caveat() api.Caveat {
	v := api.Caveat{Kind: 1 + m.Intn(5)}
	switch v.Kind {
	case api.CavAfter:
		v.Value = m.Intn(40)
	case api.CavBefore:
		v.Value = 60 + m.Intn(40)
	case api.CavUses:
		v.Value = m.Intn(10)
	default:
		v.Value = m.Intn(2)
	}
	return v
}

// capability returns a capability that is genuine under the key, if that is one.
func (m maker) capability(key int) api.Cap {
	c := api.Cap{Id: m.Intn(1000)}
	n := m.Intn(4)
	if m.chance(5) {
		n = m.Intn(13)
	}
	for range n {
		c.Caveats = append(c.Caveats, m.caveat())
	}
	l := refChain(key, c)
	c.Tag = l[len(l)-1]
	return c
}

// change returns a capability with something changed.
func (m maker) change(c api.Cap) api.Cap {
	c.Caveats = slices.Clone(c.Caveats)
	switch n := len(c.Caveats); {
	case m.chance(4):
		c.Id = m.strange()
	case m.chance(4):
		c.Tag = m.strange()
	case m.chance(2) || n == 0:
		c.Caveats = append(c.Caveats, m.caveat())
	case m.chance(3):
		i, j := m.Intn(n), m.Intn(n)
		c.Caveats[i], c.Caveats[j] = c.Caveats[j], c.Caveats[i]
	case m.chance(2):
		c.Caveats = slices.Delete(c.Caveats, n-1, n)
	case m.chance(2):
		c.Caveats[m.Intn(n)] = m.caveat()
	case m.chance(2):
		c.Caveats[m.Intn(n)].Kind = m.strange()
	default:
		c.Caveats[m.Intn(n)].Value = m.strange()
	}
	return c
}

func (m maker) strange() int {
	return []int{-1, 0, 1, 6, 1000000, 1000001, 1000000000, 1000000001, maxTag, maxTag + 1, 1<<63 - 1, -1 << 63}[m.Intn(12)]
}

func (m maker) ask() (api.Ask, int) {
	a, used := api.Ask{Room: m.Intn(2), Var: m.Intn(2), Value: m.Intn(16), Time: m.Intn(100)}, m.Intn(10)
	if m.chance(10) {
		*[]*int{&a.Room, &a.Var, &a.Value, &a.Time, &used}[m.Intn(5)] = m.strange()
	}
	return a, used
}
