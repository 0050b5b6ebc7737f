package shed_test

import (
	"fmt"
	"math"
	"math/rand"
	"slices"
	"testing"

	"domicile/api"
	"domicile/shed"
)

func example() []api.Consumer {
	return []api.Consumer{{Power: 50, Priority: 1}, {Power: 30, Priority: 5}, {Power: 40, Priority: 5}, {Power: 20, Priority: 0}}
}

// flags returns truth values, of which those with the given indices are true.
func flags(n int, trues ...int) []bool {
	l := make([]bool, n)
	for _, i := range trues {
		l[i] = true
	}
	return l
}

// order returns the indices of consumers in order, found by counting those that are before.
func order(l []api.Consumer) []int {
	places := make([]int, len(l))
	for i, c := range l {
		before := 0
		for k, d := range l {
			if d.Priority > c.Priority || d.Priority == c.Priority && k < i {
				before++
			}
		}
		places[before] = i
	}
	return places
}

// refStep follows the definition; without a margin it is Keep.
func refStep(l []api.Consumer, before []bool, limit, margin int) []bool {
	kept := make([]bool, len(l))
	used := 0
	for _, i := range order(l) {
		room := limit - used
		if !before[i] {
			room -= margin
		}
		if l[i].Power <= room {
			kept[i] = true
			used += l[i].Power
		}
	}
	return kept
}

// maker makes up consumers.
type maker struct{ *rand.Rand }

func (m maker) chance(n int) bool { return m.Intn(n) == 0 }

func (m maker) consumers() []api.Consumer {
	var l []api.Consumer
	for range m.Intn(10) {
		l = append(l, api.Consumer{Power: m.Intn(30), Priority: m.Intn(4)})
	}
	return l
}

func (m maker) flags(n int) []bool {
	l := make([]bool, n)
	for i := range l {
		l[i] = m.chance(2)
	}
	return l
}

// P41.1: the examples of the chapter.
func TestExamples(t *testing.T) {
	for limit, want := range map[int][]bool{100: flags(4, 1, 2, 3), 60: flags(4, 1, 3), 0: flags(4), 140: flags(4, 0, 1, 2, 3), 120: flags(4, 0, 1, 2)} {
		if got, err := shed.Keep(example(), limit); err != api.OK || !slices.Equal(got, want) {
			t.Errorf("Keep(%d) = %v, %d", limit, got, err)
		}
	}
	for margin, want := range map[int][]bool{0: flags(4, 0, 1, 2), 10: flags(4, 1, 2, 3), 1000000000: flags(4, 1, 2, 3)} {
		if got, err := shed.Step(example(), flags(4, 1, 2, 3), 120, margin); err != api.OK || !slices.Equal(got, want) {
			t.Errorf("Step(%d) = %v, %d", margin, got, err)
		}
	}
	idle := []api.Consumer{{Power: 0, Priority: 2}, {Power: 5, Priority: 2}}
	if got, err := shed.Keep(idle, 0); err != api.OK || !slices.Equal(got, flags(2, 0)) {
		t.Errorf("Keep = %v, %d", got, err)
	}
	if got, err := shed.Step(idle, flags(2), 5, 6); err != api.OK || !slices.Equal(got, flags(2)) {
		t.Errorf("Step = %v, %d", got, err)
	}
}

// P41.1: the errors.
func TestErrors(t *testing.T) {
	full := slices.Repeat([]api.Consumer{{Power: 1000000, Priority: 100}}, 500)
	if got, err := shed.Keep(full, 500000000); err != api.OK || slices.Contains(got, false) {
		t.Errorf("Keep of 500 consumers = %d", err)
	}
	if got, err := shed.Keep(nil, 1000000000); err != api.OK || len(got) > 0 {
		t.Errorf("Keep of nothing = %v, %d", got, err)
	}
	for i, l := range [][]api.Consumer{append(full, api.Consumer{}), {{Power: -1}}, {{}, {Power: 1000001}}, {{Priority: -1}}, {{Priority: 101}}, {{Power: math.MaxInt}, {Power: math.MaxInt}}, {{Power: math.MinInt}}} {
		if got, err := shed.Keep(l, 5); err != api.ErrArg || len(got) > 0 {
			t.Errorf("%d: Keep = %v, %d", i, got, err)
		}
		if got, err := shed.Step(l, make([]bool, len(l)), 5, 5); err != api.ErrArg || len(got) > 0 {
			t.Errorf("%d: Step = %v, %d", i, got, err)
		}
	}
	for _, limit := range []int{-1, 1000000001, math.MaxInt, math.MinInt} {
		if got, err := shed.Keep(example(), limit); err != api.ErrArg || len(got) > 0 {
			t.Errorf("Keep(%d) = %v, %d", limit, got, err)
		}
		if got, err := shed.Step(example(), flags(4), limit, 5); err != api.ErrArg || len(got) > 0 {
			t.Errorf("Step with the limit %d = %v, %d", limit, got, err)
		}
		if got, err := shed.Step(example(), flags(4), 5, limit); err != api.ErrArg || len(got) > 0 {
			t.Errorf("Step with the margin %d = %v, %d", limit, got, err)
		}
	}
	for _, n := range []int{0, 3, 5} {
		if got, err := shed.Step(example(), flags(n), 5, 5); err != api.ErrArg || len(got) > 0 {
			t.Errorf("Step with %d before = %v, %d", n, got, err)
		}
	}
}

// kept returns what Keep keeps.
func kept(t *testing.T, l []api.Consumer, limit int) []bool {
	t.Helper()
	got, err := shed.Keep(l, limit)
	if err != api.OK || len(got) != len(l) {
		t.Fatalf("Keep(%v, %d) = %v, %d", l, limit, got, err)
	}
	return got
}

// P41.1: random consumers, against the definitions.
func TestRandom(t *testing.T) {
	m := maker{rand.New(rand.NewSource(1))}
	some := 0
	for range 5000 {
		l, limit, margin := m.consumers(), m.Intn(150), m.Intn(40)
		before := m.flags(len(l))
		got := kept(t, l, limit)
		if want := refStep(l, before, limit, 0); !slices.Equal(got, want) {
			t.Fatalf("Keep(%v, %d) = %v, want %v", l, limit, got, want)
		}
		step, err := shed.Step(l, before, limit, margin)
		if want := refStep(l, before, limit, margin); err != api.OK || !slices.Equal(step, want) {
			t.Fatalf("Step(%v, %v, %d, %d) = %v, %d, want %v", l, before, limit, margin, step, err, want)
		}
		if !slices.Equal(step, got) && slices.Contains(step, true) {
			some++
		}
	}
	if some < 500 {
		t.Errorf("only %d steps differ from Keep", some)
	}
}

// P41.2, P41.3: the limit is kept, and what is shed does not fit with what is kept before it.
func TestLimits(t *testing.T) {
	m := maker{rand.New(rand.NewSource(412))}
	for range 3000 {
		l, limit := m.consumers(), m.Intn(150)
		got := kept(t, l, limit)
		sum, all, first := 0, 0, true
		for _, i := range order(l) {
			all += l[i].Power
			if got[i] {
				sum += l[i].Power
				continue
			}
			if sum+l[i].Power <= limit || first && all <= limit {
				t.Fatalf("Keep(%v, %d) = %v, but %d fits", l, limit, got, i)
			}
			first = false
		}
		if sum > limit || all <= limit && slices.Contains(got, false) {
			t.Fatalf("Keep(%v, %d) = %v", l, limit, got)
		}
	}
}

// P41.4: those with a greater priority do not depend on the others.
func TestGroups(t *testing.T) {
	m := maker{rand.New(rand.NewSource(414))}
	for range 3000 {
		l, limit, least := m.consumers(), m.Intn(150), m.Intn(4)
		got := kept(t, l, limit)
		var upper []api.Consumer
		var want []bool
		for i, c := range l {
			if c.Priority >= least {
				upper, want = append(upper, c), append(want, got[i])
			}
		}
		if alone := kept(t, upper, limit); !slices.Equal(alone, want) {
			t.Fatalf("Keep(%v, %d) = %v, but of %v %v", l, limit, got, upper, alone)
		}
	}
}

// P41.5, P41.6: steps without a margin, after all were kept, with a great margin, and after a step.
func TestSteps(t *testing.T) {
	m := maker{rand.New(rand.NewSource(415))}
	for range 3000 {
		l, limit, margin := m.consumers(), m.Intn(150), m.Intn(60)
		before, all := m.flags(len(l)), slices.Repeat([]bool{true}, len(l))
		want := kept(t, l, limit)
		if got, _ := shed.Step(l, before, limit, 0); !slices.Equal(got, want) {
			t.Fatalf("Step(%v, %v, %d, 0) = %v", l, before, limit, got)
		}
		if got, _ := shed.Step(l, all, limit, margin); !slices.Equal(got, want) {
			t.Fatalf("Step(%v, %v, %d, %d) = %v", l, all, limit, margin, got)
		}
		got, _ := shed.Step(l, before, limit, limit+1+margin)
		for i := range got {
			if got[i] && !before[i] {
				t.Fatalf("Step(%v, %v, %d, %d) = %v", l, before, limit, limit+1+margin, got)
			}
		}
		once, _ := shed.Step(l, before, limit, margin)
		if twice, _ := shed.Step(l, once, limit, margin); !slices.Equal(once, twice) {
			t.Fatalf("Step(%v, %v, %d, %d) = %v, then %v", l, before, limit, margin, once, twice)
		}
	}
}

// P41.7: with a greater limit, the first one that is shed is the same or a later one.
func TestRoom(t *testing.T) {
	m := maker{rand.New(rand.NewSource(417))}
	first := func(l []api.Consumer, got []bool) int {
		return slices.IndexFunc(append(order(l), -1), func(i int) bool { return i < 0 || !got[i] })
	}
	for range 3000 {
		l, limit := m.consumers(), m.Intn(150)
		more := limit + m.Intn(50)
		if a, b := kept(t, l, limit), kept(t, l, more); first(l, a) > first(l, b) {
			t.Fatalf("Keep(%v) = %v for %d, %v for %d", l, a, limit, b, more)
		}
	}
}

// P3: equal arguments yield equal results, arguments stay as they are, and results share no memory.
func TestIndependence(t *testing.T) {
	m := maker{rand.New(rand.NewSource(418))}
	for range 300 {
		l, limit := m.consumers(), m.Intn(150)
		flags := m.flags(len(l))
		before := fmt.Sprint(l, flags)
		first, _ := shed.Step(l, flags, limit, 9)
		text := fmt.Sprint(first)
		for i := range first {
			first[i] = !first[i]
		}
		second, _ := shed.Step(l, flags, limit, 9)
		if fmt.Sprint(second) != text || fmt.Sprint(l, flags) != before {
			t.Fatalf("%s: %s and %v", before, text, second)
		}
	}
}
