package merge_test

import (
	"fmt"
	"math"
	"math/rand"
	"slices"
	"strings"
	"testing"

	"domicile/api"
	"domicile/merge"
)

func same(a, b any) bool { return fmt.Sprintf("%+v", a) == fmt.Sprintf("%+v", b) }

func entry(hub, seq, time int) api.Entry {
	return api.Entry{Hub: hub, Seq: seq, Time: time, Kind: api.EntInput}
}

func edits(pairs ...string) []api.Edit {
	var l []api.Edit
	for i := 0; i < len(pairs); i += 2 {
		l = append(l, api.Edit{Rule: pairs[i], Text: pairs[i+1]})
	}
	return l
}

// P39.1: the examples of the chapter.
func TestExamples(t *testing.T) {
	x, y := entry(0, 0, 5), entry(1, 0, 3)
	if got, err := merge.Merge([]api.Entry{x}, []api.Entry{y}); err != api.OK || !same(got, []api.Entry{y, x}) {
		t.Errorf("Merge = %v, %d", got, err)
	}
	if got, err := merge.Merge([]api.Entry{x}, []api.Entry{entry(0, 0, 6)}); err != api.ErrConflict || len(got) > 0 {
		t.Errorf("Merge = %v, %d", got, err)
	}
	list, conflicts, err := merge.Rules(edits("x", "1"), edits("x", "2"), edits("x", "1", "y", "3"))
	if err != api.OK || !same(list, edits("x", "2", "y", "3")) || len(conflicts) > 0 {
		t.Errorf("Rules = %v, %v, %d", list, conflicts, err)
	}
	list, conflicts, err = merge.Rules(edits("x", "1"), edits("x", "2"), nil)
	if err != api.OK || !same(list, edits("x", "1")) || !slices.Equal(conflicts, []string{"x"}) {
		t.Errorf("Rules = %v, %v, %d", list, conflicts, err)
	}
	list, conflicts, err = merge.Rules(edits("x", "1", "y", "1"), edits("y", "1", "z", "5"), edits("z", "6"))
	if err != api.OK || len(list) > 0 || !slices.Equal(conflicts, []string{"z"}) {
		t.Errorf("Rules = %v, %v, %d", list, conflicts, err)
	}
}

// P39.1, AM1: which journals are well-formed.
func TestValid(t *testing.T) {
	full := make([]api.Entry, 401)
	for i := range full {
		full[i] = entry(1, i, i)
	}
	with := func(change func(*api.Entry)) []api.Entry {
		e := entry(1, 1, 1)
		change(&e)
		return []api.Entry{e}
	}
	for i, test := range []struct {
		l  []api.Entry
		ok bool
	}{
		{nil, true}, {full[:400], true}, {full, false},
		{with(func(e *api.Entry) { e.Hub, e.Seq, e.Time, e.Kind = 2, 1000000000, 1000000000, 7 }), true}, {with(func(e *api.Entry) { e.Hub, e.Seq, e.Time, e.Kind = 0, 0, 0, 1 }), true},
		{with(func(e *api.Entry) { e.Nums, e.Text = make([]int, 32), strings.Repeat("\xff", 20000) }), true}, {with(func(e *api.Entry) { e.Nums = []int{math.MinInt, math.MaxInt} }), true},
		{with(func(e *api.Entry) { e.Hub = -1 }), false}, {with(func(e *api.Entry) { e.Hub = 3 }), false}, {with(func(e *api.Entry) { e.Seq = -1 }), false}, {with(func(e *api.Entry) { e.Seq = 1000000001 }), false}, {with(func(e *api.Entry) { e.Time = -1 }), false}, {with(func(e *api.Entry) { e.Time = 1000000001 }), false},
		{with(func(e *api.Entry) { e.Kind = 0 }), false}, {with(func(e *api.Entry) { e.Kind = 8 }), false}, {with(func(e *api.Entry) { e.Nums = make([]int, 33) }), false}, {with(func(e *api.Entry) { e.Text = strings.Repeat("x", 20001) }), false},
		{[]api.Entry{entry(0, 9, 1), entry(1, 5, 1), entry(1, 6, 1), entry(0, 2, 2)}, true}, {[]api.Entry{entry(0, 1, 2), entry(0, 2, 1)}, false}, {[]api.Entry{entry(1, 1, 1), entry(0, 2, 1)}, false}, {[]api.Entry{entry(1, 2, 1), entry(1, 1, 1)}, false},
		{[]api.Entry{entry(1, 2, 1), entry(1, 2, 1)}, false}, {[]api.Entry{entry(1, 2, 1), entry(1, 3, 2), entry(1, 2, 3)}, false}, {[]api.Entry{entry(1, 2, 1), entry(2, 2, 3)}, true},
	} {
		if got := merge.Valid(test.l); got != test.ok || refValid(test.l) != test.ok {
			t.Errorf("%d: Valid = %v", i, got)
		}
		for _, pair := range [][2][]api.Entry{{test.l, nil}, {nil, test.l}} {
			got, err := merge.Merge(pair[0], pair[1])
			if (err == api.OK) != test.ok || err != api.OK && (err != api.ErrArg || len(got) > 0) {
				t.Errorf("%d: Merge = %v, %d", i, got, err)
			}
			if missing := merge.Missing(pair[0], pair[1]); !test.ok && len(missing) > 0 {
				t.Errorf("%d: Missing = %v", i, missing)
			}
		}
	}
}

// P39.1, AM2: the errors of Merge, and their order.
func TestMergeErrors(t *testing.T) {
	var a, b []api.Entry
	for i := range 400 {
		a = append(a, entry(0, i, 2*i))
		b = append(b, entry(0, i, 2*i))
	}
	if got, err := merge.Merge(a, b); err != api.OK || len(got) != 400 {
		t.Errorf("Merge = %d entries, %d", len(got), err)
	}
	more := append([]api.Entry{entry(1, 0, 1)}, b[:399]...)
	slices.SortFunc(more, func(x, y api.Entry) int { return x.Time - y.Time })
	if got, err := merge.Merge(a, more); err != api.ErrLimit || len(got) > 0 {
		t.Errorf("Merge = %d entries, %d", len(got), err)
	}
	more[len(more)-1].Text = "x"
	if got, err := merge.Merge(a, more); err != api.ErrConflict || len(got) > 0 {
		t.Errorf("Merge = %d entries, %d", len(got), err)
	}
	more[0].Kind = 0
	if got, err := merge.Merge(a, more); err != api.ErrArg || len(got) > 0 {
		t.Errorf("Merge = %d entries, %d", len(got), err)
	}
	for i, change := range []func(*api.Entry){func(e *api.Entry) { e.Time++ }, func(e *api.Entry) { e.Kind = 1 }, func(e *api.Entry) { e.Nums = []int{0} }, func(e *api.Entry) { e.Text = "x" }} {
		e := entry(1, 1, 1)
		change(&e)
		if got, err := merge.Merge([]api.Entry{entry(1, 1, 1)}, []api.Entry{e}); err != api.ErrConflict || len(got) > 0 {
			t.Errorf("%d: Merge = %v, %d", i, got, err)
		}
		if got := merge.Missing([]api.Entry{e}, []api.Entry{entry(1, 1, 1)}); !same(got, []api.Entry{e}) {
			t.Errorf("%d: Missing = %v", i, got)
		}
	}
	// No numbers are equal to an empty list of them.
	e := entry(1, 1, 1)
	e.Nums = []int{}
	if got, err := merge.Merge([]api.Entry{entry(1, 1, 1)}, []api.Entry{e}); err != api.OK || len(got) != 1 || len(merge.Missing([]api.Entry{e}, []api.Entry{entry(1, 1, 1)})) > 0 {
		t.Errorf("Merge = %v, %d", got, err)
	}
}

// many returns n rules whose names begin with a letter.
func many(letter string, n int) []api.Edit {
	var l []api.Edit
	for i := range n {
		l = append(l, api.Edit{Rule: fmt.Sprintf("%s%03d", letter, i), Text: "t"})
	}
	return l
}

// P39.1, AM4: the errors of Rules, and their order.
func TestRulesErrors(t *testing.T) {
	long := strings.Repeat("x", 20001)
	for i, test := range []struct {
		l  []api.Edit
		ok bool
	}{
		{nil, true}, {edits("abcdefghijklmnop", long[:20000]), true}, {edits("\x00", "1", "\xff", "1"), true}, {many("r", 400), true},
		{edits("", "1"), false}, {edits("abcdefghijklmnopq", "1"), false}, {edits("a", ""), false}, {edits("a", long), false}, {edits("a", "1", "a", "1"), false}, {edits("b", "1", "a", "1"), false}, {edits("a", "1", "B", "1"), false}, {many("r", 401), false},
	} {
		for _, three := range [][3][]api.Edit{{test.l, nil, nil}, {nil, test.l, nil}, {nil, nil, test.l}, {test.l, test.l, test.l}} {
			list, conflicts, err := merge.Rules(three[0], three[1], three[2])
			if (err == api.OK) != test.ok || err != api.OK && (err != api.ErrArg || len(list)+len(conflicts) > 0) {
				t.Errorf("%d: Rules = %v, %v, %d", i, list, conflicts, err)
			}
		}
	}
	if list, _, err := merge.Rules(nil, many("a", 200), many("b", 200)); err != api.OK || len(list) != 400 {
		t.Errorf("Rules = %d rules, %d", len(list), err)
	}
	if list, conflicts, err := merge.Rules(edits("c", "1"), append(many("a", 200), edits("c", "2")...), many("b", 200)); err != api.ErrLimit || len(list)+len(conflicts) > 0 {
		t.Errorf("Rules = %v, %v, %d", list, conflicts, err)
	}
}

// P39.1: random journals and rules, against the definitions.
func TestRandom(t *testing.T) {
	m := maker{rand.New(rand.NewSource(1))}
	count, clashes := map[api.Errno]int{}, 0
	for range 3000 {
		l := m.history(m.Intn(20))
		a, b := m.part(l), m.part(l)
		if m.chance(3) {
			b = m.change(b)
		}
		if got := merge.Valid(b); got != refValid(b) {
			t.Fatalf("Valid(%v) = %v", b, got)
		}
		got, err := merge.Merge(a, b)
		want, wantErr := refMerge(a, b)
		if err != wantErr || !same(got, want) {
			t.Fatalf("Merge(%v, %v) = %v, %d, want %v, %d", a, b, got, err, want, wantErr)
		}
		count[err]++
		if got, want := merge.Missing(a, b), refMissing(a, b); !same(got, want) {
			t.Fatalf("Missing(%v, %v) = %v, want %v", a, b, got, want)
		}
		base := m.rules()
		x, y := m.edited(base), m.edited(base)
		list, conflicts, err := merge.Rules(base, x, y)
		wantList, wantConflicts, wantErr := refRules(base, x, y)
		if err != wantErr || !same(list, wantList) || !slices.Equal(conflicts, wantConflicts) {
			t.Fatalf("Rules(%v, %v, %v) = %v, %v, %d, want %v, %v, %d", base, x, y, list, conflicts, err, wantList, wantConflicts, wantErr)
		}
		clashes += len(conflicts)
	}
	if count[api.OK] < 1000 || count[api.ErrArg] < 100 || count[api.ErrConflict] < 100 || clashes < 300 {
		t.Errorf("the test covers too little: %v, %d", count, clashes)
	}
}

// P3: equal arguments yield equal results, arguments stay as they are, and results share no memory.
func TestIndependence(t *testing.T) {
	m := maker{rand.New(rand.NewSource(2))}
	for range 300 {
		l := m.history(m.Intn(20))
		a, b := m.part(l), m.part(l)
		before := fmt.Sprint(a, b)
		first, _ := merge.Merge(a, b)
		missing := merge.Missing(a, b)
		text := fmt.Sprint(first, missing)
		for _, l := range [][]api.Entry{first, missing} {
			for i := range l {
				for j := range l[i].Nums {
					l[i].Nums[j] = 99
				}
				l[i].Time = -1
			}
		}
		second, _ := merge.Merge(a, b)
		if fmt.Sprint(second, merge.Missing(a, b)) != text || fmt.Sprint(a, b) != before {
			t.Fatalf("%s: %s and %v", before, text, second)
		}
		base := m.rules()
		x, y := m.edited(base), m.edited(base)
		before = fmt.Sprint(base, x, y)
		list, conflicts, _ := merge.Rules(base, x, y)
		text = fmt.Sprint(list, conflicts)
		for i := range list {
			list[i].Text = "w"
		}
		list, conflicts, _ = merge.Rules(base, x, y)
		if fmt.Sprint(list, conflicts) != text || fmt.Sprint(base, x, y) != before {
			t.Fatalf("%s: %s and %v", before, text, list)
		}
	}
}
