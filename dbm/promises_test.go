package dbm_test

import (
	"math/rand"
	"slices"
	"testing"

	"domicile/api"
	"domicile/dbm"
)

// box calls a function with all points of a size whose values are from 0 to most.
func box(size, most int, each func(p []int)) {
	p := make([]int, size)
	for {
		each(p)
		i := 0
		for i < size && p[i] == most {
			p[i] = 0
			i++
		}
		if i == size {
			return
		}
		p[i]++
	}
}

// with returns a point with another value of a clock.
func with(p []int, clock, value int) []int {
	q := slices.Clone(p)
	q[clock-1] = value
	return q
}

// small calls a function with many small zones with 1 to 3 clocks.
func small(seed int64, n int, each func(m maker, z api.Zone)) {
	m := maker{rand.New(rand.NewSource(seed))}
	for range n {
		z := m.small(1 + m.Intn(3))
		if m.chance(3) {
			z = m.reached(1 + m.Intn(3))
		}
		each(m, z)
	}
}

// P11.2: the canonical form has the same points, is canonical, and has no shorter way over a third clock.
func TestCanonical(t *testing.T) {
	small(10, 2000, func(_ maker, z api.Zone) {
		form, ok := dbm.Close(z)
		some := false
		box(z.Size, 9, func(p []int) {
			some = some || dbm.Contains(z, p)
			if dbm.Contains(z, p) != (ok && dbm.Contains(form, p)) {
				t.Errorf("%v has the form %v, but not for %v", z, form, p)
			}
		})
		if some && !ok {
			t.Errorf("%v has points, but no form", z)
		}
		if _, found := dbm.Point(z); found != ok {
			t.Errorf("%v has a form %v, but a point %v", z, ok, found)
		}
	})
	m := maker{rand.New(rand.NewSource(11))}
	for range 20000 {
		form, ok := dbm.Close(m.any())
		if !ok {
			continue
		}
		again, ok := dbm.Close(form)
		if !ok || !slices.Equal(again.Bound, form.Bound) {
			t.Fatalf("%v has the form %v", form, again)
		}
		list := rows(form)
		for i := range list {
			for j := range list {
				for k := range list {
					if over := sum(list[i][k], list[k][j]); over < list[i][j] && over <= 2e9 {
						t.Fatalf("%v is shorter from %v over %v to %v", form, i, k, j)
					}
				}
			}
		}
	}
}

// P11.3: Meet has exactly the points that satisfy the bound.
func TestMeeting(t *testing.T) {
	small(12, 2000, func(m maker, z api.Zone) {
		i, c := m.Intn(z.Size+1), m.Intn(13)-6
		j := (i + 1 + m.Intn(z.Size)) % (z.Size + 1)
		result, _ := dbm.Meet(z, i, j, c)
		box(z.Size, 9, func(p []int) {
			values := append([]int{0}, p...)
			if dbm.Contains(result, p) != (dbm.Contains(z, p) && values[i]-values[j] <= c) {
				t.Errorf("Meet(%v, %v, %v, %v) = %v is wrong for %v", z, i, j, c, result, p)
			}
		})
	})
}

// P11.4: Up has exactly the points that waiting reaches.
func TestWaiting(t *testing.T) {
	small(13, 2000, func(_ maker, z api.Zone) {
		up := dbm.Up(z)
		box(z.Size, 9, func(p []int) {
			reached := false
			for n := range 10 {
				q := slices.Clone(p)
				for i := range q {
					q[i] -= n
				}
				reached = reached || dbm.Contains(z, q)
			}
			if dbm.Contains(up, p) != reached {
				t.Errorf("Up(%v) = %v is wrong for %v", z, up, p)
			}
		})
	})
}

// P11.5: Reset has the points with 0 in the place of the value of the clock, Free those with any value.
func TestResetting(t *testing.T) {
	small(14, 2000, func(m maker, z api.Zone) {
		clock := 1 + m.Intn(z.Size)
		reset, anyValue := dbm.Reset(z, clock), dbm.Free(z, clock)
		box(z.Size, 7, func(p []int) {
			before := false
			for value := range 45 {
				before = before || dbm.Contains(z, with(p, clock, value))
			}
			if dbm.Contains(reset, p) != (before && p[clock-1] == 0) {
				t.Errorf("Reset(%v, %v) = %v is wrong for %v", z, clock, reset, p)
			}
			if dbm.Contains(anyValue, p) != before {
				t.Errorf("Free(%v, %v) = %v is wrong for %v", z, clock, anyValue, p)
			}
		})
	})
	// The value that the clock had may be above the greatest one of a point.
	z := api.Zone{Size: 2, Bound: []int{0, -1500000000, 0, free, 0, free, free, free, 0}}
	if dbm.Contains(z, []int{1000000000, 3}) || !dbm.Contains(dbm.Reset(z, 1), []int{0, 3}) || !dbm.Contains(dbm.Free(z, 1), []int{5, 3}) {
		t.Error("a great value that is left out")
	}
}

// P11.6: a zone that includes another one has all of its points; inclusion is reflexive and transitive.
func TestInclusion(t *testing.T) {
	included, excluded := 0, 0
	small(15, 4000, func(m maker, a api.Zone) {
		b := a
		for range 1 + m.Intn(2) {
			if next := m.operate(b); dbm.Valid(next) {
				b = next
			}
		}
		c := m.small(a.Size)
		for _, pair := range [][2]api.Zone{{a, b}, {b, a}, {a, c}, {c, a}} {
			all := true
			box(a.Size, 9, func(p []int) {
				all = all && (!dbm.Contains(pair[1], p) || dbm.Contains(pair[0], p))
			})
			if dbm.Includes(pair[0], pair[1]) {
				included++
				if !all {
					t.Errorf("%v includes %v", pair[0], pair[1])
				}
			} else {
				excluded++
			}
		}
		if !dbm.Includes(a, a) {
			t.Errorf("%v does not include itself", a)
		}
		if dbm.Includes(a, b) && dbm.Includes(b, c) && !dbm.Includes(a, c) {
			t.Errorf("%v includes %v, and this includes %v", a, b, c)
		}
	})
	if included < 2000 || excluded < 2000 {
		t.Errorf("%d and %d", included, excluded)
	}
}

// P11.7: the least point is in the zone, and each of its values is the least one.
func TestLeastPoint(t *testing.T) {
	found := 0
	small(16, 2000, func(_ maker, z api.Zone) {
		least, ok := dbm.Point(z)
		if ok && !dbm.Contains(z, least) {
			t.Errorf("%v does not contain %v", z, least)
		}
		if ok {
			found++
		}
		box(z.Size, 9, func(p []int) {
			if !dbm.Contains(z, p) {
				return
			}
			for i := range p {
				if !ok || least[i] > p[i] {
					t.Errorf("%v contains %v, and the least point is %v", z, p, least)
				}
			}
		})
	})
	if found < 500 {
		t.Errorf("%d zones have a point", found)
	}
}

// P11.8: Widen includes the zone, changes nothing again, and adds no small points.
func TestWidening(t *testing.T) {
	wider := 0
	small(17, 4000, func(m maker, z api.Zone) {
		most := m.most(z.Size, 6)
		wide := dbm.Widen(z, most)
		if _, ok := dbm.Close(z); !ok {
			return
		}
		if !dbm.Includes(wide, z) {
			t.Errorf("Widen(%v, %v) = %v does not include it", z, most, wide)
		}
		if !dbm.Includes(z, wide) {
			wider++
		}
		if again := dbm.Widen(wide, most); !slices.Equal(again.Bound, wide.Bound) {
			t.Errorf("Widen(%v, %v) = %v, and again %v", z, most, wide, again)
		}
		box(z.Size, 6, func(p []int) {
			for i := range p {
				if p[i] > most[i] {
					return
				}
			}
			if dbm.Contains(wide, p) != dbm.Contains(z, p) {
				t.Errorf("Widen(%v, %v) = %v is wrong for %v", z, most, wide, p)
			}
		})
	})
	if wider < 500 {
		t.Errorf("%d zones became wider", wider)
	}
}
