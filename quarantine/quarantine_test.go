package quarantine_test

import (
	"fmt"
	"math"
	"math/rand"
	"slices"
	"testing"

	"domicile/api"
	"domicile/quarantine"
)

func same(a, b any) bool { return fmt.Sprintf("%+v", a) == fmt.Sprintf("%+v", b) }

// lampModel is the example of the chapter.
func lampModel() api.Model {
	return api.Model{
		Vars:   []api.Var{{Name: "m", Size: 2, Start: 1, Sensor: true, Device: 0}, {Name: "l", Size: 3, Start: 2, Device: 1}},
		Timers: 2,
		Rules: []api.Rule{
			{Name: "r0", Timer: -1, Trigger: api.Atom{Op: api.OpEq, Value: 1}, Sets: []api.Set{{Var: 1, Value: 1}}},
			{Name: "r1", Timer: 0, Guard: []api.Atom{{Var: 1, Op: api.OpEq}}, Sets: []api.Set{{Var: 1, Value: 2}}},
			{Name: "r2", Timer: 0, Guard: []api.Atom{{Var: 0, Op: api.OpNe, Value: 1}}, Sets: []api.Set{{Var: 1}}, Starts: []api.Start{{Timer: 1, Seconds: 5}}},
		},
	}
}

// P26.1: the examples of the chapter.
func TestExamples(t *testing.T) {
	m := lampModel()
	m.Over = []api.Pair{{Winner: 2, Loser: 1}, {Winner: 0, Loser: 2}}
	want := api.Model{Vars: slices.Clone(m.Vars), Timers: 2, Rules: []api.Rule{m.Rules[1], m.Rules[2]}, Over: []api.Pair{{Winner: 1, Loser: 0}}}
	want.Vars[0].Sensor, want.Vars[0].Start = false, 0
	want.Rules[1].Guard = nil
	if got, err := quarantine.Remove(m, 0); err != api.OK || !same(got, want) {
		t.Errorf("Remove 0 = %+v, %d", got, err)
	}
	want = api.Model{Vars: slices.Clone(m.Vars), Timers: 2, Rules: slices.Clone(m.Rules), Over: m.Over}
	want.Vars[1].Start = 0
	want.Rules[0].Sets, want.Rules[1].Sets, want.Rules[2].Sets, want.Rules[1].Guard = nil, nil, nil, nil
	if got, err := quarantine.Remove(m, 1); err != api.OK || !same(got, want) {
		t.Errorf("Remove 1 = %+v, %d", got, err)
	}
	if got, err := quarantine.Remove(m, 2); err != api.ErrArg || !same(got, api.Model{}) {
		t.Errorf("Remove 2 = %+v, %d", got, err)
	}
	m.Laws = []api.Law{{Cond: []api.Atom{{Var: 1, Op: api.OpEq, Value: 0}}, Bound: 10}}
	if got, err := quarantine.Remove(m, 1); err != api.ErrConflict || !same(got, api.Model{}) {
		t.Errorf("Remove with a law about off = %+v, %d", got, err)
	}
	m.Laws[0].Cond[0].Value = 1
	if got, err := quarantine.Remove(m, 1); err != api.OK || !same(got, want) {
		t.Errorf("Remove with a law about on = %+v, %d", got, err)
	}
	for device, want := range map[int][]int{0: {0, 2}, 1: {0, 1, 2}, 2: nil} {
		if got := quarantine.Depend(m, device); !slices.Equal(got, want) {
			t.Errorf("Depend on %d = %v", device, got)
		}
	}
}

// P26.1: errors, and their order.
func TestErrors(t *testing.T) {
	m := lampModel()
	m.Vars[1].Device = -1
	m.Laws = []api.Law{{Cond: []api.Atom{{Var: 0, Op: api.OpEq}}}}
	for _, device := range []int{-1, -2, math.MinInt, 1, 2, math.MaxInt} {
		if got, err := quarantine.Remove(m, device); err != api.ErrArg || !same(got, api.Model{}) {
			t.Errorf("Remove %d = %+v, %d", device, got, err)
		}
		if l := quarantine.Depend(m, device); len(l) > 0 {
			t.Errorf("Depend on %d = %v", device, l)
		}
	}
	if _, err := quarantine.Remove(m, 0); err != api.ErrConflict {
		t.Errorf("Remove = %d", err)
	}
	m.Rules[2].Priority = 101
	if got, err := quarantine.Remove(m, 0); err != api.ErrArg || !same(got, api.Model{}) || len(quarantine.Depend(m, 0)) > 0 {
		t.Errorf("Remove of a wrong model = %+v, %d", got, err)
	}
}

// P26.1: laws keep their other comparisons, and a timer's rule has no comparison that triggers it.
func TestLaws(t *testing.T) {
	m := lampModel()
	off, on, dim := api.Atom{Var: 0, Op: api.OpEq}, api.Atom{Var: 0, Op: api.OpEq, Value: 1}, api.Atom{Var: 1, Op: api.OpGt, Value: 1}
	m.Laws = []api.Law{{Name: "a", Cond: []api.Atom{off, dim}, Bound: 3}, {Name: "b", Cond: []api.Atom{dim, on}}, {Name: "c", Cond: []api.Atom{dim, dim}}, {Name: "d", Cond: []api.Atom{on}}}
	got, err := quarantine.Remove(m, 0)
	if want := []api.Law{{Name: "a", Cond: []api.Atom{dim}, Bound: 3}, {Name: "c", Cond: []api.Atom{dim, dim}}}; err != api.OK || !same(got.Laws, want) {
		t.Errorf("laws = %+v, %d", got.Laws, err)
	}
	m.Rules[1].Guard = nil
	if l := quarantine.Depend(m, 0); !slices.Equal(l, []int{0, 2}) {
		t.Errorf("Depend = %v", l)
	}
}

// P26.1: random models, against the definitions.
func TestRandom(t *testing.T) {
	m := maker{rand.New(rand.NewSource(1))}
	conflicts, shorter, pairs := 0, 0, 0
	for range 4000 {
		model, device := m.model(), m.Intn(4)
		there := slices.ContainsFunc(model.Vars, func(v api.Var) bool { return v.Device == device })
		want, wantErr := refRemove(model, device)
		if !there {
			want, wantErr = api.Model{}, api.ErrArg
		}
		got, err := quarantine.Remove(model, device)
		if err != wantErr || !same(got, want) {
			t.Fatalf("Remove(%+v, %d) = %+v, %d, want %+v, %d", model, device, got, err, want, wantErr)
		}
		if err == api.ErrConflict {
			conflicts++
		}
		if err == api.OK && len(got.Rules) > 0 && len(got.Rules) < len(model.Rules) {
			shorter++
			pairs += len(got.Over)
		}
		var depend []int
		for i, r := range model.Rules {
			if refDepend(model, r, device) {
				depend = append(depend, i)
			}
		}
		if got := quarantine.Depend(model, device); !slices.Equal(got, depend) {
			t.Fatalf("Depend(%+v, %d) = %v, want %v", model, device, got, depend)
		}
	}
	if conflicts < 200 || shorter < 500 || pairs < 200 {
		t.Errorf("the test covers too little: %d, %d, %d", conflicts, shorter, pairs)
	}
}

// P3: equal arguments yield equal results, arguments stay as they are, and results share no memory.
func TestIndependence(t *testing.T) {
	m := maker{rand.New(rand.NewSource(2))}
	for range 500 {
		model := m.model()
		before := fmt.Sprint(model)
		first, _ := quarantine.Remove(model, 0)
		text := fmt.Sprint(first)
		for i, r := range first.Rules {
			for j := range r.Guard {
				r.Guard[j].Var = 99
			}
			for j := range r.Sets {
				r.Sets[j].Var = 99
			}
			for j := range r.Starts {
				r.Starts[j].Timer = 99
			}
			first.Rules[i].Name = "x"
		}
		for _, l := range first.Laws {
			for j := range l.Cond {
				l.Cond[j].Var = 99
			}
		}
		for i := range first.Vars {
			first.Vars[i].Size = 99
		}
		for i := range first.Over {
			first.Over[i].Winner = 99
		}
		again, _ := quarantine.Remove(model, 0)
		if fmt.Sprint(again) != text || fmt.Sprint(model) != before {
			t.Fatalf("%s: %s and %v", before, text, again)
		}
	}
}
