package dbm_test

import (
	"slices"

	"domicile/api"
)

// refValid says whether a zone is valid.
func refValid(z api.Zone) bool {
	if z.Size < 0 || z.Size > 12 || len(z.Bound) != (z.Size+1)*(z.Size+1) {
		return false
	}
	for _, b := range z.Bound {
		if b != 1<<40 && (b > 2e9 || b < -2e9) {
			return false
		}
	}
	return true
}

// rows returns the bounds of a zone row by row.
func rows(z api.Zone) [][]int {
	var list [][]int
	for i := range z.Size + 1 {
		list = append(list, slices.Clone(z.Bound[i*(z.Size+1):(i+1)*(z.Size+1)]))
	}
	return list
}

// zone returns the zone with these rows.
func zone(list [][]int) api.Zone { return api.Zone{Size: len(list) - 1, Bound: slices.Concat(list...)} }

// sum returns the length of two parts of a path.
func sum(a, b int) int {
	if a == 1<<40 || b == 1<<40 {
		return 1 << 40
	}
	return a + b
}

// refClose returns the canonical form: the least lengths of paths with one edge, then with two at most, and so on.
func refClose(z api.Zone) (api.Zone, bool) {
	if !refValid(z) {
		return api.Zone{}, false
	}
	edges := rows(z)
	for j := 1; j <= z.Size; j++ {
		edges[0][j] = min(edges[0][j], 0)
	}
	least := rows(zone(edges))
	for range z.Size + 1 {
		next := rows(zone(least))
		for i := range least {
			for j := range least {
				for k := range least {
					next[i][j] = min(next[i][j], sum(least[i][k], edges[k][j]))
				}
			}
		}
		least = next
	}
	for i := range least {
		if least[i][i] < 0 {
			return api.Zone{}, false
		}
		least[i][i] = 0
	}
	for i := range least {
		for j, length := range least[i] {
			if length < -2e9 {
				return api.Zone{}, false
			}
			if length > 2e9 {
				least[i][j] = 1 << 40
			}
		}
	}
	return zone(least), true
}

// refMeet returns the canonical form with one more bound.
func refMeet(z api.Zone, i, j, c int) (api.Zone, bool) {
	if !refValid(z) || min(i, j) < 0 || max(i, j) > z.Size || i == j || c < -1e9 || c > 1e9 {
		return api.Zone{}, false
	}
	list := rows(z)
	list[i][j] = min(list[i][j], c)
	return refClose(zone(list))
}

// refChange replaces the bounds of the canonical form by those that a function returns.
func refChange(z api.Zone, bound func(form [][]int, i, j int) int) api.Zone {
	form, ok := refClose(z)
	if !ok {
		return api.Zone{}
	}
	old, list := rows(form), rows(form)
	for i := range list {
		for j := range list {
			list[i][j] = bound(old, i, j)
		}
	}
	result, ok := refClose(zone(list))
	if !ok {
		panic("a change that leaves no zone")
	}
	return result
}

func refUp(z api.Zone) api.Zone {
	return refChange(z, func(form [][]int, i, j int) int {
		if i > 0 && j == 0 {
			return 1 << 40
		}
		return form[i][j]
	})
}

func refReset(z api.Zone, clock int) api.Zone {
	if clock < 1 || clock > z.Size {
		return api.Zone{}
	}
	return refChange(z, func(form [][]int, i, j int) int {
		switch {
		case i == clock && j != clock:
			return form[0][j]
		case j == clock && i != clock:
			return form[i][0]
		}
		return form[i][j]
	})
}

func refFree(z api.Zone, clock int) api.Zone {
	if clock < 1 || clock > z.Size {
		return api.Zone{}
	}
	return refChange(z, func(form [][]int, i, j int) int {
		switch {
		case i == clock && j != clock:
			return 1 << 40
		case j == clock && i != clock:
			return form[i][0]
		}
		return form[i][j]
	})
}

func refIncludes(a, b api.Zone) bool {
	if !refValid(a) || !refValid(b) || a.Size != b.Size {
		return false
	}
	inner, ok := refClose(b)
	if !ok {
		return true
	}
	outer, ok := refClose(a)
	if !ok {
		return false
	}
	for i := range outer.Bound {
		if outer.Bound[i] != 1<<40 && (inner.Bound[i] == 1<<40 || outer.Bound[i] < inner.Bound[i]) {
			return false
		}
	}
	return true
}

func refContains(z api.Zone, p []int) bool {
	if !refValid(z) || len(p) != z.Size {
		return false
	}
	values := append([]int{0}, p...)
	for i, row := range rows(z) {
		for j, bound := range row {
			if values[i] < 0 || values[i] > 1e9 || bound != 1<<40 && values[i]-values[j] > bound {
				return false
			}
		}
	}
	return true
}

func refPoint(z api.Zone) ([]int, bool) {
	form, ok := refClose(z)
	if !ok {
		return nil, false
	}
	var p []int
	for i := 1; i <= z.Size; i++ {
		p = append(p, -rows(form)[0][i])
	}
	if len(p) > 0 && slices.Max(p) > 1e9 {
		return nil, false
	}
	return p, true
}

func refWiden(z api.Zone, most []int) api.Zone {
	if len(most) != z.Size || len(most) > 0 && (slices.Min(most) < 0 || slices.Max(most) > 1e9) {
		return api.Zone{}
	}
	numbers := append([]int{0}, most...)
	return refChange(z, func(form [][]int, i, j int) int {
		switch {
		case i != 0 && form[i][j] > numbers[i]:
			return 1 << 40
		case form[i][j] < -numbers[j]:
			return -numbers[j] - 1
		}
		return form[i][j]
	})
}
