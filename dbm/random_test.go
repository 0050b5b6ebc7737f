package dbm_test

import (
	"math/rand"

	"domicile/api"
	"domicile/dbm"
)

// maker makes up zones.
type maker struct{ *rand.Rand }

func (m maker) chance(n int) bool { return m.Intn(n) == 0 }

// number returns a number in -most .. most, often a small one.
func (m maker) number(most int) int {
	switch m.Intn(4) {
	case 0:
		return m.Intn(2*most+1) - most
	case 1:
		return most - m.Intn(3)
	case 2:
		return -most + m.Intn(3)
	}
	return m.Intn(min(most, 9))
}

// small returns a zone whose bounds are small; some have no points.
func (m maker) small(size int) api.Zone {
	z := api.Zone{Size: size}
	for range (size + 1) * (size + 1) {
		b := m.Intn(14) - 4
		if m.chance(3) {
			b = api.Infinite
		}
		z.Bound = append(z.Bound, b)
	}
	for i := range size + 1 {
		if !m.chance(9) {
			z.Bound[i*(size+2)] = m.Intn(2)
		}
	}
	return z
}

// great returns a zone with bounds of all sizes.
func (m maker) great(size int) api.Zone {
	z := api.Zone{Size: size}
	for range (size + 1) * (size + 1) {
		b := m.number(2000000000)
		if m.chance(3) {
			b = api.Infinite
		} else if m.chance(3) && b < 0 {
			b = -b
		}
		z.Bound = append(z.Bound, b)
	}
	for i := range size + 1 {
		z.Bound[i*(size+2)] = m.Intn(2)
	}
	return z
}

// valley returns a zone around a point, whose bounds are not canonical.
func (m maker) valley(size int) api.Zone {
	p := []int{0}
	for range size {
		p = append(p, m.Intn(1+m.Intn(1000000000)))
	}
	z := api.Zone{Size: size}
	for i := range size + 1 {
		for j := range size + 1 {
			b := p[i] - p[j] + m.Intn(1+m.Intn(1000000))
			if m.chance(3) {
				b = api.Infinite
			}
			z.Bound = append(z.Bound, b)
		}
	}
	return z
}

// reached returns a zone that operations reach.
func (m maker) reached(size int) api.Zone {
	z := dbm.Zero(size)
	for range m.Intn(12) {
		next := m.operate(z)
		if dbm.Valid(next) {
			z = next
		}
	}
	return z
}

// operate returns a zone after an operation.
func (m maker) operate(z api.Zone) api.Zone {
	i, j := m.Intn(z.Size+1), m.Intn(z.Size+1)
	switch m.Intn(4) {
	case 0:
		return dbm.Up(z)
	case 1:
		return dbm.Reset(z, i)
	case 2:
		return dbm.Free(z, i)
	}
	next, ok := dbm.Meet(z, i, j, m.Intn(12)-5)
	if !ok {
		return z
	}
	return next
}

// any returns a zone of any kind.
func (m maker) any() api.Zone {
	size := m.Intn(5)
	if m.chance(10) {
		size = m.Intn(13)
	}
	switch m.Intn(5) {
	case 0:
		return m.great(size)
	case 1:
		return m.valley(size)
	case 2:
		return m.reached(size)
	}
	return m.small(size)
}

// most returns numbers for Widen.
func (m maker) most(size, greatest int) []int {
	var list []int
	for range size {
		list = append(list, m.Intn(greatest+1))
	}
	return list
}
