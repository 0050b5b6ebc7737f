package merge_test

import (
	"math/rand"
	"slices"
	"testing"

	"domicile/api"
	"domicile/merge"
)

func merged(t *testing.T, a, b []api.Entry) []api.Entry {
	t.Helper()
	l, err := merge.Merge(a, b)
	if err != api.OK {
		t.Fatalf("Merge(%v, %v) = %d", a, b, err)
	}
	return l
}

func has(l []api.Entry, e api.Entry) bool {
	return slices.ContainsFunc(l, func(x api.Entry) bool { return same(x, e) })
}

// P39.2 to P39.5: merging parts of a journal yields a part of it, in any order, and nothing is missing.
func TestJournals(t *testing.T) {
	m := maker{rand.New(rand.NewSource(392))}
	for range 1000 {
		l := m.history(m.Intn(25))
		a, b, c := m.part(l), m.part(l), m.part(l)
		ab := merged(t, a, b)
		if !merge.Valid(ab) || !same(ab, merged(t, b, a)) || !same(merged(t, ab, c), merged(t, a, merged(t, b, c))) || !same(merged(t, a, a), a) || !same(merged(t, a, nil), a) || !same(merged(t, nil, a), a) {
			t.Fatalf("%v, %v, %v", a, b, c)
		}
		for _, e := range l {
			if has(ab, e) != (has(a, e) || has(b, e)) {
				t.Fatalf("Merge(%v, %v) = %v", a, b, ab)
			}
		}
		if !same(merged(t, l, ab), l) {
			t.Fatalf("%v is no part of %v", ab, l)
		}
		lacking := merge.Missing(b, a)
		if !same(merged(t, a, lacking), ab) || len(merge.Missing(b, ab))+len(merge.Missing(a, ab)) > 0 {
			t.Fatalf("Missing(%v, %v) = %v", b, a, lacking)
		}
	}
}

// P39.5: there is a conflict exactly if two different entries have the same hub and number.
func TestConflicts(t *testing.T) {
	m := maker{rand.New(rand.NewSource(395))}
	conflicts := 0
	for range 3000 {
		l := m.history(m.Intn(12))
		a, b := m.part(l), m.change(m.part(l))
		if !merge.Valid(b) {
			continue
		}
		want := false
		for _, x := range a {
			for _, y := range b {
				want = want || x.Hub == y.Hub && x.Seq == y.Seq && !same(x, y)
			}
		}
		if _, err := merge.Merge(a, b); (err == api.ErrConflict) != want {
			t.Fatalf("Merge(%v, %v) = %d", a, b, err)
		}
		if want {
			conflicts++
		}
	}
	if conflicts < 200 {
		t.Errorf("only %d conflicts", conflicts)
	}
}

// wellFormed returns lists that were edited.
func (m maker) wellFormed() (base, a, b []api.Edit) {
	for {
		base = m.rules()
		a, b = m.edited(base), m.edited(base)
		if refRulesValid(base) && refRulesValid(a) && refRulesValid(b) {
			return base, a, b
		}
	}
}

// P39.6, P39.7: merging is symmetrical, takes what one side changed, and keeps the base of conflicts.
func TestRules(t *testing.T) {
	m := maker{rand.New(rand.NewSource(396))}
	without := 0
	for range 3000 {
		base, a, b := m.wellFormed()
		list, conflicts, err := merge.Rules(base, a, b)
		back, also, _ := merge.Rules(base, b, a)
		if err != api.OK || !same(list, back) || !slices.Equal(conflicts, also) || !refRulesValid(list) || !slices.IsSorted(conflicts) {
			t.Fatalf("Rules(%v, %v, %v) = %v, %v, %d, but the other way round %v, %v", base, a, b, list, conflicts, err, back, also)
		}
		for _, name := range []string{"a", "ab", "b", "c", "d\xff", "e"} {
			o, x, y, got := text(base, name), text(a, name), text(b, name), text(list, name)
			if x == o && got != y || y == o && got != x || slices.Contains(conflicts, name) && got != o || slices.Contains(conflicts, name) != (x != o && y != o && x != y) {
				t.Fatalf("Rules(%v, %v, %v) = %v, %v", base, a, b, list, conflicts)
			}
		}
		for _, one := range [][2][]api.Edit{{a, base}, {base, a}, {a, a}} {
			if got, none, _ := merge.Rules(base, one[0], one[1]); !same(got, a) || len(none) > 0 {
				t.Fatalf("Rules(%v, %v, %v) = %v, %v", base, one[0], one[1], got, none)
			}
		}
		if len(conflicts) > 0 {
			continue
		}
		without++
		for _, side := range [][]api.Edit{a, b} {
			if got, none, _ := merge.Rules(base, list, side); !same(got, list) || len(none) > 0 {
				t.Fatalf("Rules(%v, %v, %v) = %v, %v", base, list, side, got, none)
			}
		}
	}
	if without < 500 {
		t.Errorf("only %d times without conflicts", without)
	}
}

// P39.8: without one of the names, the results for the others are the same.
func TestNames(t *testing.T) {
	m := maker{rand.New(rand.NewSource(398))}
	for range 2000 {
		base, a, b := m.wellFormed()
		name := []string{"a", "ab", "b", "c", "d\xff", "e"}[m.Intn(6)]
		less := func(l []api.Edit) []api.Edit {
			return slices.DeleteFunc(slices.Clone(l), func(e api.Edit) bool { return e.Rule == name })
		}
		list, conflicts, _ := merge.Rules(base, a, b)
		got, gotConflicts, err := merge.Rules(less(base), less(a), less(b))
		conflicts = slices.DeleteFunc(conflicts, func(n string) bool { return n == name })
		if err != api.OK || !same(got, less(list)) || !slices.Equal(gotConflicts, conflicts) {
			t.Fatalf("Rules(%v, %v, %v) = %v, but without %s %v, %v", base, a, b, list, name, got, gotConflicts)
		}
	}
}
