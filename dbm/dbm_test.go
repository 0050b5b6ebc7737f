package dbm_test

import (
	"math/rand"
	"reflect"
	"slices"
	"testing"

	"domicile/api"
	"domicile/dbm"
)

const free = api.Infinite

// want checks a zone.
func want(t *testing.T, what string, got, expected api.Zone) {
	t.Helper()
	if got.Size != expected.Size || !slices.Equal(got.Bound, expected.Bound) {
		t.Errorf("%s is %v, want %v", what, got, expected)
	}
}

// isZero reports whether a zone is the zero value.
func isZero(z api.Zone) bool { return z.Size == 0 && len(z.Bound) == 0 }

// meet returns a zone with one more bound, which has to exist.
func meet(t *testing.T, z api.Zone, i, j, c int) api.Zone {
	t.Helper()
	result, ok := dbm.Meet(z, i, j, c)
	if !ok {
		t.Fatalf("Meet(%v, %v, %v, %v) does not exist", z, i, j, c)
	}
	return result
}

// P11.1, K1: which zones are valid.
func TestValid(t *testing.T) {
	for i, test := range []struct {
		z    api.Zone
		want bool
	}{
		{api.Zone{}, false},
		{api.Zone{Bound: []int{0}}, true},
		{api.Zone{Bound: []int{free}}, true},
		{api.Zone{Bound: []int{-5}}, true},
		{api.Zone{Bound: []int{2000000000}}, true},
		{api.Zone{Bound: []int{2000000001}}, false},
		{api.Zone{Bound: []int{-2000000000}}, true},
		{api.Zone{Bound: []int{-2000000001}}, false},
		{api.Zone{Bound: []int{free + 1}}, false},
		{api.Zone{Bound: []int{free - 1}}, false},
		{api.Zone{Bound: []int{-free}}, false},
		{api.Zone{Bound: []int{0, 0}}, false},
		{api.Zone{Size: 1, Bound: []int{0, 0, 0}}, false},
		{api.Zone{Size: 1, Bound: []int{0, 0, 0, 0}}, true},
		{api.Zone{Size: 1, Bound: []int{0, 0, 0, 0, 0}}, false},
		{api.Zone{Size: 12, Bound: make([]int, 169)}, true},
		{api.Zone{Size: 13, Bound: make([]int, 196)}, false},
		{api.Zone{Size: -1}, false},
		{api.Zone{Size: -2, Bound: []int{0}}, false},
		{api.Zone{Size: 1 << 62, Bound: []int{0}}, false},
	} {
		if got := dbm.Valid(test.z); got != test.want {
			t.Errorf("%d: Valid(%v) = %v", i, test.z, got)
		}
	}
}

// P11.1, K2: the zones Zero and All.
func TestFirstZones(t *testing.T) {
	want(t, "Zero(0)", dbm.Zero(0), api.Zone{Bound: []int{0}})
	want(t, "All(0)", dbm.All(0), api.Zone{Bound: []int{0}})
	want(t, "Zero(1)", dbm.Zero(1), api.Zone{Size: 1, Bound: []int{0, 0, 0, 0}})
	want(t, "All(1)", dbm.All(1), api.Zone{Size: 1, Bound: []int{0, 0, free, 0}})
	want(t, "All(2)", dbm.All(2), api.Zone{Size: 2, Bound: []int{0, 0, 0, free, 0, free, free, free, 0}})
	for n := -2; n < 15; n++ {
		inside := n >= 0 && n <= 12
		for _, z := range []api.Zone{dbm.Zero(n), dbm.All(n)} {
			if dbm.Valid(z) != inside || !inside && !isZero(z) || inside && z.Size != n {
				t.Errorf("%d clocks: %v", n, z)
			}
			if form, ok := dbm.Close(z); inside && (!ok || !slices.Equal(form.Bound, z.Bound)) {
				t.Errorf("%v is not canonical, but %v", z, form)
			}
		}
	}
}

// P11.1: the examples of the chapter.
func TestExamples(t *testing.T) {
	z := dbm.Reset(dbm.Up(dbm.Zero(2)), 1)
	want(t, "the first zone", z, api.Zone{Size: 2, Bound: []int{0, 0, 0, 0, 0, 0, free, free, 0}})
	if !dbm.Contains(z, []int{0, 7}) || dbm.Contains(z, []int{1, 7}) {
		t.Errorf("the points of %v", z)
	}
	z = meet(t, dbm.Up(dbm.Zero(2)), 1, 0, 5)
	want(t, "the second zone", z, api.Zone{Size: 2, Bound: []int{0, 0, 0, 5, 0, 0, 5, 0, 0}})
	if p, ok := dbm.Point(meet(t, dbm.Up(dbm.Zero(2)), 0, 1, -3)); !ok || !slices.Equal(p, []int{3, 3}) {
		t.Errorf("the point is %v, %v", p, ok)
	}
	if z, ok := dbm.Meet(meet(t, dbm.All(2), 1, 2, -1), 2, 1, 0); ok || !isZero(z) {
		t.Errorf("All, Meet(1, 2, -1), Meet(2, 1, 0) is %v, %v", z, ok)
	}
}

// P11.1, K3: the canonical form of extreme zones.
func TestClose(t *testing.T) {
	const most = 2000000000
	for i, test := range []struct {
		bound []int
		want  []int // nil: there is none
	}{
		{[]int{0}, []int{0}},
		{[]int{free}, []int{0}},
		{[]int{7}, []int{0}},
		{[]int{-1}, nil},
		{[]int{0, free, free, 0}, []int{0, 0, free, 0}},
		{[]int{3, 4, 5, 6}, []int{0, 0, 5, 0}},
		{[]int{0, 0, 0, -1}, nil},
		{[]int{0, 0, -1, 0}, nil},
		{[]int{0, -4, 3, 0}, nil},
		{[]int{0, -4, 4, 0}, []int{0, -4, 4, 0}},
		{[]int{0, -most, most, 0}, []int{0, -most, most, 0}},
		{[]int{0, -most, free, 0}, []int{0, -most, free, 0}},
		// The path from 0 over 1 to 2 is too short for a bound.
		{[]int{0, -most, free, free, 0, -1, free, free, 0}, nil},
		{[]int{0, -most, free, free, 0, 0, free, free, 0}, []int{0, -most, -most, free, 0, 0, free, free, 0}},
		// The path from 2 over 1 to 0 is too long for a bound.
		{[]int{0, 0, 0, most, 0, free, free, 1, 0}, []int{0, 0, 0, most, 0, most, free, 1, 0}},
		{[]int{0, 0, 0, most, 0, free, free, 0, 0}, []int{0, 0, 0, most, 0, most, most, 0, 0}},
		// A part of a path may be longer than each bound.
		{[]int{0, 0, -9, most, 0, free, free, 5, 0}, []int{0, -4, -9, most, 0, most - 9, free, 5, 0}},
	} {
		size := 0
		for (size+1)*(size+1) < len(test.bound) {
			size++
		}
		z := api.Zone{Size: size, Bound: test.bound}
		got, ok := dbm.Close(z)
		if ok != (test.want != nil) || !slices.Equal(got.Bound, test.want) || !ok && !isZero(got) {
			t.Errorf("%d: Close(%v) = %v, %v, want %v", i, z, got, ok, test.want)
		}
	}
}

// P11.1: zones that are not valid, clocks that are none, and numbers that are too great have zero results.
func TestInvalid(t *testing.T) {
	good := dbm.Up(dbm.Zero(2))
	none := api.Zone{Size: 2, Bound: []int{0, -4, 0, 3, 0, 0, 0, 0, 0}}
	for _, bad := range []api.Zone{{}, {Size: 2}, {Size: -1}, {Size: 2, Bound: append(make([]int, 8), 2000000001)}, {Size: 13, Bound: make([]int, 196)}, none} {
		closed, ok := dbm.Close(bad)
		met, okMeet := dbm.Meet(bad, 1, 0, 5)
		p, okPoint := dbm.Point(bad)
		if ok || okMeet || okPoint || len(p) > 0 || !isZero(closed) || !isZero(met) {
			t.Errorf("%v has results", bad)
		}
		for _, z := range []api.Zone{dbm.Up(bad), dbm.Reset(bad, 1), dbm.Free(bad, 1), dbm.Widen(bad, []int{1, 1})} {
			if !isZero(z) {
				t.Errorf("%v has the result %v", bad, z)
			}
		}
		if dbm.Includes(bad, good) || dbm.Contains(bad, []int{0, 0}) || dbm.Includes(good, bad) != dbm.Valid(bad) {
			t.Errorf("%v includes or contains something, or is included", bad)
		}
	}
	for _, c := range [][3]int{{1, 1, 5}, {0, 0, 5}, {-1, 0, 5}, {0, -1, 5}, {3, 0, 5}, {0, 3, 5}, {1, 0, 1000000001}, {1, 0, -1000000001}, {1, 0, free}} {
		if z, ok := dbm.Meet(good, c[0], c[1], c[2]); ok || !isZero(z) {
			t.Errorf("Meet%v = %v", c, z)
		}
	}
	for _, i := range []int{-1, 0, 3} {
		if !isZero(dbm.Reset(good, i)) || !isZero(dbm.Free(good, i)) {
			t.Errorf("the clock %v is changed", i)
		}
	}
	for _, most := range [][]int{nil, {1}, {1, 2, 3}, {-1, 0}, {0, 1000000001}} {
		if z := dbm.Widen(good, most); !isZero(z) {
			t.Errorf("Widen(%v) = %v", most, z)
		}
	}
	for _, p := range [][]int{nil, {1}, {1, 1, 1}, {-1, -1}, {1000000001, 1000000001}} {
		if dbm.Contains(good, p) {
			t.Errorf("the point %v is in the zone", p)
		}
	}
	if !dbm.Contains(good, []int{1000000000, 1000000000}) {
		t.Error("the greatest point is not in the zone")
	}
	if dbm.Includes(dbm.All(1), dbm.All(2)) || dbm.Includes(dbm.All(2), dbm.All(1)) {
		t.Error("zones of different sizes include each other")
	}
	if !dbm.Includes(none, none) || dbm.Includes(none, good) {
		t.Error("inclusion of a zone without a canonical form")
	}
}

// P11.1, K7: points with values that are too great are none.
func TestPointLimit(t *testing.T) {
	for _, c := range []int{0, 1, 999999999, 1000000000, 1000000001, 2000000000} {
		p, ok := dbm.Point(api.Zone{Size: 1, Bound: []int{0, -c, free, 0}})
		if ok != (c <= 1000000000) || ok && !slices.Equal(p, []int{c}) || !ok && len(p) > 0 {
			t.Errorf("the least point from %v on is %v, %v", c, p, ok)
		}
	}
	if p, ok := dbm.Point(dbm.Zero(0)); !ok || len(p) > 0 {
		t.Errorf("the point without clocks is %v, %v", p, ok)
	}
}

// P11.1: random zones and arguments have the results of the reference.
func TestReference(t *testing.T) {
	m := maker{rand.New(rand.NewSource(1))}
	forms := 0
	for range 60000 {
		z := m.any()
		closed, ok := dbm.Close(z)
		expected, okExpected := refClose(z)
		if ok != okExpected {
			t.Fatalf("Close(%v): %v", z, ok)
		}
		if ok {
			forms++
		}
		want(t, "Close", closed, expected)
		i, j, c := m.Intn(z.Size+3)-1, m.Intn(z.Size+3)-1, m.number(1000000002)
		met, ok := dbm.Meet(z, i, j, c)
		expected, okExpected = refMeet(z, i, j, c)
		if ok != okExpected {
			t.Fatalf("Meet(%v, %v, %v, %v): %v", z, i, j, c, ok)
		}
		want(t, "Meet", met, expected)
		want(t, "Up", dbm.Up(z), refUp(z))
		want(t, "Reset", dbm.Reset(z, i), refReset(z, i))
		want(t, "Free", dbm.Free(z, i), refFree(z, i))
		most := m.most(z.Size, 1+m.Intn(9))
		want(t, "Widen", dbm.Widen(z, most), refWiden(z, most))
		p, ok := dbm.Point(z)
		refP, okExpected := refPoint(z)
		if ok != okExpected || !slices.Equal(p, refP) {
			t.Errorf("Point(%v) = %v, %v, want %v, %v", z, p, ok, refP, okExpected)
		}
		other := m.any()
		if m.chance(2) {
			other = m.operate(z)
		}
		if got := dbm.Includes(other, z); got != refIncludes(other, z) {
			t.Errorf("Includes(%v, %v) = %v", other, z, got)
		}
		if got := dbm.Contains(z, p); got != refContains(z, p) {
			t.Errorf("Contains(%v, %v) = %v", z, p, got)
		}
		q := m.most(z.Size, 9)
		if got := dbm.Contains(z, q); got != refContains(z, q) {
			t.Errorf("Contains(%v, %v) = %v", z, q, got)
		}
	}
	if forms < 20000 || forms > 55000 {
		t.Errorf("%d of 60000 zones have a canonical form", forms)
	}
}

// P3: equal arguments have equal results, arguments are not changed, and results share nothing with them.
func TestIndependence(t *testing.T) {
	m := maker{rand.New(rand.NewSource(2))}
	for range 3000 {
		z := m.any()
		if z.Size == 0 {
			continue
		}
		kept, most := slices.Clone(z.Bound), m.most(z.Size, 5)
		all := func() []api.Zone {
			closed, _ := dbm.Close(z)
			met, _ := dbm.Meet(z, 1, 0, 3)
			return []api.Zone{closed, met, dbm.Up(z), dbm.Reset(z, 1), dbm.Free(z, 1), dbm.Widen(z, most), dbm.Zero(3), dbm.All(3)}
		}
		for _, result := range all() {
			for i := range result.Bound {
				result.Bound[i] = 77
			}
		}
		if !slices.Equal(z.Bound, kept) {
			t.Fatalf("%v was %v", z, kept)
		}
		if first, second := all(), all(); !reflect.DeepEqual(first, second) {
			t.Errorf("%v and %v", first, second)
		}
	}
}

// P1: no arguments make a function panic.
func TestExtremes(t *testing.T) {
	numbers := []int{-1 << 63, -1, 0, 1, 2, 12, 13, 2000000001, free, 1<<63 - 1}
	zones := []api.Zone{dbm.Zero(2), dbm.All(12), dbm.Zero(0)}
	for _, size := range numbers {
		for _, b := range numbers {
			zones = append(zones, api.Zone{Size: size, Bound: []int{b}}, api.Zone{Size: size, Bound: []int{b, b, b, b}}, api.Zone{Size: size})
		}
	}
	for _, z := range zones {
		for _, i := range numbers {
			for _, j := range numbers {
				dbm.Meet(z, i, j, i)
				dbm.Includes(z, api.Zone{Size: i, Bound: []int{j}})
			}
			dbm.Reset(z, i)
			dbm.Free(z, i)
			dbm.Contains(z, []int{i})
			dbm.Widen(z, []int{i})
		}
		dbm.Up(z)
		dbm.Point(z)
	}
}
