package rules_test

import (
	"fmt"
	"reflect"
	"slices"
	"testing"

	"domicile/api"
	"domicile/rules"
)

// full is a well-formed model with a part of each kind.
func full() api.Model {
	return api.Model{
		Vars:   []api.Var{{Name: "a", Size: 2, Start: 1, Sensor: true, Device: -1, Attr: -1}, {Size: 16, Start: 15, Fallback: 15, Device: 1 << 62, Attr: 1 << 62}, {Size: 1, Private: true, Shown: true}},
		Timers: 2,
		Rules: []api.Rule{
			{Name: "r", Priority: 100, Timer: -1, Trigger: api.Atom{Var: 1, Op: api.OpLt, Value: 16}, Guard: slices.Repeat([]api.Atom{is(0, 1)}, 8), Sets: []api.Set{{Var: 0, Value: 1}, {Var: 2, Value: 0}}, Starts: []api.Start{{Timer: 0, Seconds: 0}, {Timer: 1, Seconds: 86400}}},
			{Timer: 1},
			{Timer: -1, Trigger: api.Atom{Var: 2, Op: api.OpNe}},
		},
		Laws: []api.Law{{Cond: slices.Repeat([]api.Atom{{Var: 0, Op: api.OpGe, Value: 0}}, 8), Bound: 86400}, {Cond: []api.Atom{is(0, 1)}}},
		Over: []api.Pair{{Winner: 0, Loser: 1}, {Winner: 2, Loser: 1}, {Winner: 2, Loser: 0}},
	}
}

// wantInvalid checks that a model is not well-formed, and what all calls return for it.
func wantInvalid(t *testing.T, name string, m api.Model) {
	t.Helper()
	right := full()
	s := rules.Start(right)
	if rules.Valid(m) {
		t.Errorf("%s is well-formed", name)
	}
	if got := rules.Start(m); !reflect.DeepEqual(got, api.State{}) {
		t.Errorf("%s: Start = %v", name, got)
	}
	if got := rules.Inputs(m, s); len(got) != 0 {
		t.Errorf("%s: Inputs = %v", name, got)
	}
	if got := rules.Broken(m, s); len(got) != 0 {
		t.Errorf("%s: Broken = %v", name, got)
	}
	wantError(t, m, s, set(0, 0), api.ErrArg)
	wantError(t, m, s, set(9, 9), api.ErrArg)
	if steps, err := rules.Run(m, nil); err != api.ErrArg || len(steps) != 0 {
		t.Errorf("%s: Run = %v, %v", name, steps, err)
	}
}

// P7.1: what makes a model not well-formed, one thing after the other.
func TestInvalidModels(t *testing.T) {
	if !rules.Valid(full()) || !rules.Valid(api.Model{}) {
		t.Fatal("the model is not well-formed")
	}
	for name, change := range map[string]func(*api.Model){
		"size 0":                 func(m *api.Model) { m.Vars[2].Size = 0 },
		"size 17":                func(m *api.Model) { m.Vars[1].Size = 17 },
		"size -1":                func(m *api.Model) { m.Vars[2].Size = -1 },
		"start of size":          func(m *api.Model) { m.Vars[0].Start = 2 },
		"start -1":               func(m *api.Model) { m.Vars[0].Start = -1 },
		"fallback of size":       func(m *api.Model) { m.Vars[1].Fallback = 16 },
		"fallback -1":            func(m *api.Model) { m.Vars[0].Fallback = -1 },
		"device -2":              func(m *api.Model) { m.Vars[0].Device = -2 },
		"attr -2":                func(m *api.Model) { m.Vars[0].Attr = -2 },
		"timers -1":              func(m *api.Model) { m.Timers = -1 },
		"timers 41":              func(m *api.Model) { m.Timers = 41 },
		"timers 1":               func(m *api.Model) { m.Timers = 1 },
		"priority -1":            func(m *api.Model) { m.Rules[0].Priority = -1 },
		"priority 101":           func(m *api.Model) { m.Rules[1].Priority = 101 },
		"timer -2":               func(m *api.Model) { m.Rules[0].Timer = -2 },
		"timer of timers":        func(m *api.Model) { m.Rules[1].Timer = 2 },
		"timer and trigger":      func(m *api.Model) { m.Rules[1].Trigger = is(0, 1) },
		"timer and zero op":      func(m *api.Model) { m.Rules[1].Trigger.Value = 1 },
		"no trigger":             func(m *api.Model) { m.Rules[2].Trigger = api.Atom{} },
		"trigger var -1":         func(m *api.Model) { m.Rules[0].Trigger.Var = -1 },
		"trigger var of vars":    func(m *api.Model) { m.Rules[0].Trigger.Var = 3 },
		"trigger op 0":           func(m *api.Model) { m.Rules[0].Trigger.Op = 0 },
		"trigger op 7":           func(m *api.Model) { m.Rules[0].Trigger.Op = 7 },
		"trigger value -1":       func(m *api.Model) { m.Rules[0].Trigger.Value = -1 },
		"trigger value too much": func(m *api.Model) { m.Rules[0].Trigger.Value = 17 },
		"trigger eq size":        func(m *api.Model) { m.Rules[0].Trigger.Op = api.OpEq },
		"trigger ne size":        func(m *api.Model) { m.Rules[2].Trigger.Value = 1 },
		"guard of 9":             func(m *api.Model) { m.Rules[0].Guard = slices.Repeat([]api.Atom{is(0, 1)}, 9) },
		"wrong guard":            func(m *api.Model) { m.Rules[1].Guard = []api.Atom{is(0, 1), is(0, 2)} },
		"set var -1":             func(m *api.Model) { m.Rules[0].Sets[0].Var = -1 },
		"set var of vars":        func(m *api.Model) { m.Rules[0].Sets[1].Var = 3 },
		"set value -1":           func(m *api.Model) { m.Rules[0].Sets[0].Value = -1 },
		"set value of size":      func(m *api.Model) { m.Rules[0].Sets[1].Value = 1 },
		"sets twice":             func(m *api.Model) { m.Rules[0].Sets[1].Var = 0 },
		"sets in another order":  func(m *api.Model) { slices.Reverse(m.Rules[0].Sets) },
		"start timer -1":         func(m *api.Model) { m.Rules[0].Starts[0].Timer = -1 },
		"start timer of timers":  func(m *api.Model) { m.Rules[0].Starts[1].Timer = 2 },
		"start -1 second":        func(m *api.Model) { m.Rules[0].Starts[0].Seconds = -1 },
		"start 86401 seconds":    func(m *api.Model) { m.Rules[0].Starts[1].Seconds = 86401 },
		"starts twice":           func(m *api.Model) { m.Rules[0].Starts[0].Timer = 1 },
		"law without condition":  func(m *api.Model) { m.Laws[1].Cond = nil },
		"law of 9":               func(m *api.Model) { m.Laws[1].Cond = slices.Repeat([]api.Atom{is(0, 1)}, 9) },
		"wrong condition":        func(m *api.Model) { m.Laws[0].Cond[7].Value = 3 },
		"bound -1":               func(m *api.Model) { m.Laws[1].Bound = -1 },
		"bound 86401":            func(m *api.Model) { m.Laws[0].Bound = 86401 },
		"pair of one rule":       func(m *api.Model) { m.Over[0] = api.Pair{Winner: 1, Loser: 1} },
		"winner -1":              func(m *api.Model) { m.Over[0].Winner = -1 },
		"winner of rules":        func(m *api.Model) { m.Over[0].Winner = 3 },
		"loser -1":               func(m *api.Model) { m.Over[0].Loser = -1 },
		"loser of rules":         func(m *api.Model) { m.Over[2].Loser = 3 },
		"pair twice":             func(m *api.Model) { m.Over[1] = m.Over[0] },
		"pair and inverse":       func(m *api.Model) { m.Over[1] = api.Pair{Winner: 1, Loser: 0} },
	} {
		m := full()
		change(&m)
		wantInvalid(t, name, m)
	}
}

// P7.1: the limits of all lists.
func TestModelLimits(t *testing.T) {
	pairs := func(n int) api.Model {
		m := api.Model{Rules: slices.Repeat([]api.Rule{{Timer: 0}}, 30), Timers: 1}
		for winner := range 30 {
			for loser := range winner {
				if len(m.Over) < n {
					m.Over = append(m.Over, api.Pair{Winner: winner, Loser: loser})
				}
			}
		}
		return m
	}
	for _, test := range []struct {
		name  string
		limit int
		model func(n int) api.Model
	}{
		{"variables", 1200, func(n int) api.Model { return api.Model{Vars: slices.Repeat([]api.Var{{Size: 1}}, n)} }},
		{"timers", 40, func(n int) api.Model { return api.Model{Timers: n} }},
		{"rules", 400, func(n int) api.Model { return api.Model{Timers: 1, Rules: slices.Repeat([]api.Rule{{Timer: 0}}, n)} }},
		{"laws", 20, func(n int) api.Model {
			return api.Model{Vars: vars(1, 0), Laws: slices.Repeat([]api.Law{{Cond: []api.Atom{is(0, 0)}}}, n)}
		}},
		{"pairs", 400, pairs},
	} {
		if !rules.Valid(test.model(test.limit)) {
			t.Errorf("%d %s are too many", test.limit, test.name)
		}
		wantInvalid(t, fmt.Sprint(test.limit+1, " ", test.name), test.model(test.limit+1))
	}
}

// P7.1: what makes a state not well-formed.
func TestInvalidStates(t *testing.T) {
	m := full()
	// The first law holds always and the second one, if a is 1.
	right := api.State{Values: []int{1, 15, 0}, Left: []int{-1, 86400}, Over: []int{86401, 0}}
	other := api.State{Values: []int{0, 0, 0}, Left: []int{0, 0}, Over: []int{0, -1}}
	for _, s := range []api.State{right, other} {
		if len(rules.Inputs(m, s)) == 0 {
			t.Errorf("%v is not well-formed", s)
		}
	}
	if got := rules.Broken(m, right); !slices.Equal(got, []int{0}) {
		t.Errorf("Broken = %v", got)
	}
	for _, s := range []api.State{
		{},
		{Values: []int{1, 15}, Left: []int{-1, 5}, Over: []int{0, 0}},
		{Values: []int{1, 15, 0, 0}, Left: []int{-1, 5}, Over: []int{0, 0}},
		{Values: []int{1, 15, 0}, Left: []int{-1}, Over: []int{0, 0}},
		{Values: []int{1, 15, 0}, Left: []int{-1, 5, -1}, Over: []int{0, 0}},
		{Values: []int{1, 15, 0}, Left: []int{-1, 5}, Over: []int{0}},
		{Values: []int{1, 15, 0}, Left: []int{-1, 5}, Over: []int{0, 0, -1}},
		{Values: []int{2, 15, 0}, Left: []int{-1, 5}, Over: []int{0, -1}},
		{Values: []int{1, 16, 0}, Left: []int{-1, 5}, Over: []int{0, 0}},
		{Values: []int{1, 15, -1}, Left: []int{-1, 5}, Over: []int{0, 0}},
		{Values: []int{1, 15, 0}, Left: []int{-2, 5}, Over: []int{0, 0}},
		{Values: []int{1, 15, 0}, Left: []int{-1, 86401}, Over: []int{0, 0}},
		{Values: []int{1, 15, 0}, Left: []int{-1, 5}, Over: []int{-1, 0}},
		{Values: []int{1, 15, 0}, Left: []int{-1, 5}, Over: []int{0, -1}},
		{Values: []int{0, 15, 0}, Left: []int{-1, 5}, Over: []int{0, 0}},
		{Values: []int{1, 15, 0}, Left: []int{-1, 5}, Over: []int{86402, 0}},
		{Values: []int{1, 15, 0}, Left: []int{-1, 5}, Over: []int{0, 2}},
		{Values: []int{1, 15, 0}, Left: []int{-1, 5}, Over: []int{-2, 0}},
	} {
		wantError(t, m, s, set(0, 0), api.ErrArg)
		wantError(t, m, s, wait(-1), api.ErrArg)
		if rules.Inputs(m, s) != nil || rules.Broken(m, s) != nil {
			t.Errorf("%v is well-formed", s)
		}
	}
	wantError(t, m, right, api.Input{Kind: 4}, api.ErrArg)
}
