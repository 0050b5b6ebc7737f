package dbm

import (
	"slices"

	"domicile/api"
)

// mostBound is the greatest finite bound.
const mostBound = 2000000000

// matrix is a zone with methods for its elements.
type matrix api.Zone

func (m matrix) at(i, j int) int     { return m.Bound[i*(m.Size+1)+j] }
func (m matrix) put(i, j, bound int) { m.Bound[i*(m.Size+1)+j] = bound }

// lower puts a bound that is less than the present one.
func (m matrix) lower(i, j, bound int) { m.put(i, j, min(m.at(i, j), bound)) }

// fillRow puts one bound from a clock to all others.
func (m matrix) fillRow(i, bound int) {
	for j := range m.Size + 1 {
		if j != i {
			m.put(i, j, bound)
		}
	}
}

// copyRow puts the bounds from another clock in the place of those from a clock.
func (m matrix) copyRow(i, from int) {
	for j := range m.Size + 1 {
		if j != i {
			m.put(i, j, m.at(from, j))
		}
	}
}

// copyColumn puts the bounds to another clock in the place of those to a clock.
func (m matrix) copyColumn(i, from int) {
	for j := range m.Size + 1 {
		if j != i {
			m.put(j, i, m.at(j, from))
		}
	}
}

// changed returns the canonical form of a copy of a zone after changes, and whether it exists.
func changed(z api.Zone, changes ...func(m matrix)) (api.Zone, bool) {
	if !Valid(z) {
		return api.Zone{}, false
	}
	m := matrix{Size: z.Size, Bound: slices.Clone(z.Bound)}
	for _, change := range changes {
		change(m)
	}
	if !m.prepare() || !m.shorten() || !m.round() {
		return api.Zone{}, false
	}
	return api.Zone(m), true
}

// changedForm returns the canonical form of the canonical form of a zone after changes.
func changedForm(z api.Zone, changes ...func(m matrix)) api.Zone {
	form, ok := Close(z)
	if !ok {
		return api.Zone{}
	}
	result, _ := changed(form, changes...)
	return result
}

// prepare lowers the bounds that each zone has: values are not negative, and no clock differs from itself. It reports whether no clock contradicts this.
func (m matrix) prepare() bool {
	for i := range m.Size + 1 {
		m.lower(0, i, 0)
		m.lower(i, i, 0)
	}
	return m.consistent()
}

// consistent reports whether no path from a clock to itself that has been found is negative.
func (m matrix) consistent() bool {
	for i := range m.Size + 1 {
		if m.at(i, i) < 0 {
			return false
		}
	}
	return true
}

// shorten puts the least length of all paths in the place of each bound, and reports whether there is one. It ends with the first clock over which a negative path leads back, because lengths could grow without bound after it.
func (m matrix) shorten() bool {
	for k := range m.Size + 1 {
		for i := range m.Size + 1 {
			first := m.at(i, k)
			if first == api.Infinite {
				continue
			}
			for j := range m.Size + 1 {
				if second := m.at(k, j); second != api.Infinite {
					m.lower(i, j, first+second)
				}
			}
		}
		if !m.consistent() {
			return false
		}
	}
	return true
}

// round leaves out bounds that are too great, and reports whether none is too small.
func (m matrix) round() bool {
	for i, bound := range m.Bound {
		if bound < -mostBound {
			return false
		}
		if bound > mostBound {
			m.Bound[i] = api.Infinite
		}
	}
	return true
}
