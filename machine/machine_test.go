package machine_test

import (
	"math/rand"
	"reflect"
	"slices"
	"testing"

	"domicile/api"
	"domicile/machine"
)

// code returns a sequence from pairs of Ops and Args.
func code(numbers ...int) []api.Instr {
	var l []api.Instr
	for i := 0; i < len(numbers); i += 2 {
		l = append(l, api.Instr{Op: numbers[i], Arg: numbers[i+1]})
	}
	return l
}

// is is a condition that a variable has a value; set and start are parts of actions.
func is(v, value int) []api.Instr { return code(api.InsVar, v, api.InsConst, value, api.InsEq, 0) }
func sets(v, value int) []api.Instr {
	return code(api.InsConst, value, api.InsSet, v)
}
func starts(timer, seconds int) []api.Instr {
	return code(api.InsConst, seconds, api.InsStart, timer)
}

// both joins sequences with InsAnd.
func both(a, b []api.Instr) []api.Instr { return slices.Concat(a, b, code(api.InsAnd, 0)) }

// set, expire and wait return inputs.
func set(v, value int) api.Input { return api.Input{Kind: api.InSet, Var: v, Value: value} }
func expire(timer int) api.Input { return api.Input{Kind: api.InExpire, Timer: timer} }
func wait(seconds int) api.Input { return api.Input{Kind: api.InWait, Seconds: seconds} }

// apply returns the result of an input that is permitted.
func apply(t *testing.T, p api.Program, s api.State, in api.Input) api.Step {
	t.Helper()
	step, err := machine.Apply(p, s, in)
	if err != api.OK {
		t.Fatalf("Apply(%+v, %v, %v): %v", p, s, in, err)
	}
	return step
}

// wantStep checks a step.
func wantStep(t *testing.T, got, want api.Step) {
	t.Helper()
	if !reflect.DeepEqual(normal(got), normal(want)) {
		t.Errorf("the step is %+v, want %+v", got, want)
	}
}

// wantError checks that an input has an error and no step.
func wantError(t *testing.T, p api.Program, s api.State, in api.Input, want api.Errno) {
	t.Helper()
	if step, err := machine.Apply(p, s, in); err != want || !reflect.DeepEqual(step, api.Step{}) {
		t.Errorf("Apply(%+v, %v, %v) = %+v, %v, want %v", p, s, in, step, err, want)
	}
}

// P10.1: the values of conditions, with the examples of the chapter, and the errors.
func TestEval(t *testing.T) {
	long := is(0, 1)
	for len(long)+4 <= 400 {
		long = both(long, is(0, 1))
	}
	deep := func(depth int) []api.Instr {
		l := slices.Repeat(is(0, 1), depth-1)
		for range depth - 2 {
			l = append(l, api.Instr{Op: api.InsAnd})
		}
		return l
	}
	for _, test := range []struct {
		l      []api.Instr
		values []int
		want   bool
		err    api.Errno
	}{
		{is(0, 1), []int{1}, true, api.OK},
		{code(api.InsConst, 2, api.InsVar, 0, api.InsLt, 0), []int{1}, false, api.OK},
		{both(is(0, 1), code(api.InsVar, 1, api.InsConst, 0, api.InsGt, 0)), []int{1, 1}, true, api.OK},
		{nil, []int{1}, true, api.OK},
		{nil, nil, true, api.OK},
		{is(1, 1), []int{1}, false, api.ErrCode},
		{code(api.InsConst, 1), nil, false, api.ErrCode},
		{code(api.InsConst, 5, api.InsConst, 5, api.InsEq, 0), nil, true, api.OK},
		{code(api.InsVar, 0, api.InsVar, 1, api.InsGt, 0), []int{-3, -5}, true, api.OK},
		{code(api.InsVar, 0, api.InsVar, 1, api.InsLe, 0), []int{1 << 62, -1 << 63}, false, api.OK},
		{code(api.InsConst, 86400, api.InsConst, 86400, api.InsGe, 0), nil, true, api.OK},
		{code(api.InsConst, 86401, api.InsConst, 86400, api.InsGe, 0), nil, false, api.ErrCode},
		{code(api.InsConst, -1, api.InsConst, 0, api.InsLt, 0), nil, false, api.ErrCode},
		{code(api.InsVar, -1, api.InsConst, 0, api.InsEq, 0), []int{0}, false, api.ErrCode},
		{code(api.InsVar, 0, api.InsConst, 1, api.InsEq, 1), []int{1}, false, api.ErrCode},
		{slices.Concat(is(0, 1), is(0, 1), code(api.InsAnd, -1)), []int{1}, false, api.ErrCode},
		{slices.Concat(is(0, 1), is(0, 1)), []int{1}, false, api.ErrCode},
		{slices.Concat(code(api.InsConst, 1), is(0, 1)), []int{1}, false, api.ErrCode},
		{slices.Concat(is(0, 1), code(api.InsConst, 1)), []int{1}, false, api.ErrCode},
		{slices.Concat(is(0, 1), code(api.InsConst, 1, api.InsAnd, 0)), []int{1}, false, api.ErrCode},
		{slices.Concat(code(api.InsConst, 1), is(0, 1), code(api.InsAnd, 0)), []int{1}, false, api.ErrCode},
		{slices.Concat(is(0, 1), code(api.InsConst, 1, api.InsEq, 0)), []int{1}, false, api.ErrCode},
		{slices.Concat(sets(0, 1), is(0, 1)), []int{1}, false, api.ErrCode},
		{slices.Concat(is(0, 1), starts(0, 1)), []int{1}, false, api.ErrCode},
		{sets(0, 1), []int{1}, false, api.ErrCode},
		{code(api.InsAnd, 0), []int{1}, false, api.ErrCode},
		{code(api.InsEq, 0), []int{1}, false, api.ErrCode},
		{code(0, 0), []int{1}, false, api.ErrCode},
		{code(12, 0), []int{1}, false, api.ErrCode},
		{append(is(0, 1), code(-1, 0)...), []int{1}, false, api.ErrCode},
		{deep(16), []int{1}, true, api.OK},
		{deep(16), []int{0}, false, api.OK},
		{deep(17), []int{1}, false, api.ErrCode},
		{long, []int{1}, true, api.OK},
		{long, []int{0}, false, api.OK},
		{append(slices.Clone(long), code(api.InsConst, 1, api.InsConst, 1)...), []int{1}, false, api.ErrLimit},
		{make([]api.Instr, 400), []int{1}, false, api.ErrCode},
		{make([]api.Instr, 401), []int{1}, false, api.ErrLimit},
	} {
		if got, err := machine.Eval(test.l, test.values); got != test.want || err != test.err {
			t.Errorf("Eval(%v, %v) = %v, %v, want %v, %v", test.l, test.values, got, err, test.want, test.err)
		}
	}
}

// P10.1: random sequences have the values that the reference says.
func TestRandomCode(t *testing.T) {
	m := maker{rand.New(rand.NewSource(1)), false}
	conditions := 0
	for range 100000 {
		p := m.program()
		l := m.condition(p, 1+m.Intn(4))
		if m.chance(2) {
			at := m.Intn(len(l))
			switch m.Intn(3) {
			case 0:
				l[at].Op = m.Intn(14) - 1
			case 1:
				l[at].Arg = m.Intn(7) - 2
			case 2:
				l = slices.Insert(l, at, l[m.Intn(len(l))])
			}
		}
		var values []int
		for range 1 + m.Intn(5) {
			values = append(values, m.Intn(4))
		}
		want, ok := refEval(l, values)
		wantErr := api.OK
		if !ok {
			want, wantErr = false, api.ErrCode
		} else {
			conditions++
		}
		if got, err := machine.Eval(l, values); got != want || err != wantErr {
			t.Errorf("Eval(%v, %v) = %v, %v, want %v, %v", l, values, got, err, want, wantErr)
		}
	}
	if conditions < 20000 || conditions > 90000 {
		t.Errorf("%d of 100000 sequences are conditions", conditions)
	}
}

// full is a valid program with a part of each kind.
func full() api.Program {
	return api.Program{
		Vars: []api.Var{{Size: 2, Sensor: true}, {Size: 3, Start: 2}, {Size: 2, Sensor: true, Start: 1}}, Timers: 2,
		Units: []api.Unit{
			{Priority: 5, Timer: -1, Trigger: is(0, 1), Guard: is(2, 1), Action: slices.Concat(sets(1, 1), starts(0, 5))},
			{Timer: 0, Action: sets(1, 0)},
		},
		Laws: []api.LawCode{{Cond: is(1, 1), Bound: 4}, {Cond: is(2, 1), Bound: 86400}},
		Over: []api.Pair{{Winner: 1, Loser: 0}},
	}
}

// P10.1: a run of a program, input by input.
func TestRun(t *testing.T) {
	p := full()
	s := machine.Start(p)
	wantStep(t, api.Step{State: s}, api.Step{State: api.State{Values: []int{0, 2, 1}, Left: []int{-1, -1}, Over: []int{-1, 0}}})
	step := apply(t, p, s, set(0, 1))
	wantStep(t, step, api.Step{State: api.State{Values: []int{1, 1, 1}, Left: []int{5, -1}, Over: []int{0, 0}}, Commands: []api.Command{{Rule: 0, Var: 1, Value: 1}}, Firings: []api.Firing{{Wave: 0, Rule: 0}}})
	wantError(t, p, step.State, wait(6), api.ErrState)
	wantError(t, p, step.State, expire(0), api.ErrState)
	wantError(t, p, step.State, set(0, 1), api.ErrState)
	wantError(t, p, step.State, set(1, 0), api.ErrState)
	step = apply(t, p, step.State, wait(5))
	wantStep(t, step, api.Step{State: api.State{Values: []int{1, 1, 1}, Left: []int{0, -1}, Over: []int{5, 5}}})
	wantError(t, p, step.State, wait(1), api.ErrState)
	step = apply(t, p, step.State, expire(0))
	wantStep(t, step, api.Step{State: api.State{Values: []int{1, 0, 1}, Left: []int{-1, -1}, Over: []int{-1, 5}}, Commands: []api.Command{{Rule: 1, Var: 1, Value: 0}}, Firings: []api.Firing{{Wave: 0, Rule: 1}}})
	wantStep(t, apply(t, p, step.State, wait(86400)), api.Step{State: api.State{Values: []int{1, 0, 1}, Left: []int{-1, -1}, Over: []int{-1, 86401}}})
	wantStep(t, apply(t, p, step.State, set(2, 0)), api.Step{State: api.State{Values: []int{1, 0, 0}, Left: []int{-1, -1}, Over: []int{-1, -1}}})
}

// P10.1: commands of one unit replace each other without a clash; those of others by their priorities and preferences.
func TestCommands(t *testing.T) {
	unit := func(priority int, action ...[]api.Instr) api.Unit {
		return api.Unit{Priority: priority, Timer: -1, Trigger: is(0, 1), Action: slices.Concat(action...)}
	}
	clash := []api.Clash{{First: 0, Second: 1, Var: 1}}
	for _, test := range []struct {
		units   []api.Unit
		over    []api.Pair
		want    api.Command
		clashes []api.Clash
	}{
		{[]api.Unit{unit(0, sets(1, 1), sets(1, 2))}, nil, api.Command{Rule: 0, Var: 1, Value: 2}, nil},
		{[]api.Unit{unit(0, sets(1, 2), sets(1, 0), sets(1, 1))}, nil, api.Command{Rule: 0, Var: 1, Value: 1}, nil},
		{[]api.Unit{unit(0, sets(1, 1), sets(1, 1))}, nil, api.Command{Rule: 0, Var: 1, Value: 1}, nil},
		{[]api.Unit{unit(0, sets(1, 1)), unit(0, sets(1, 2))}, nil, api.Command{Rule: 0, Var: 1, Value: 1}, clash},
		{[]api.Unit{unit(0, sets(1, 1)), unit(0, sets(1, 2), sets(1, 1))}, nil, api.Command{Rule: 0, Var: 1, Value: 1}, clash},
		{[]api.Unit{unit(0, sets(1, 1)), unit(0, sets(1, 1), sets(1, 2))}, nil, api.Command{Rule: 0, Var: 1, Value: 1}, clash},
		{[]api.Unit{unit(0, sets(1, 2), sets(1, 1)), unit(0, sets(1, 1))}, nil, api.Command{Rule: 0, Var: 1, Value: 1}, nil},
		{[]api.Unit{unit(0, sets(1, 1)), unit(1, sets(1, 2), sets(1, 0))}, nil, api.Command{Rule: 1, Var: 1, Value: 0}, nil},
		{[]api.Unit{unit(1, sets(1, 1)), unit(0, sets(1, 2), sets(1, 0))}, nil, api.Command{Rule: 0, Var: 1, Value: 1}, nil},
		{[]api.Unit{unit(0, sets(1, 1)), unit(0, sets(1, 2), sets(1, 1))}, []api.Pair{{Winner: 1, Loser: 0}}, api.Command{Rule: 1, Var: 1, Value: 1}, nil},
		{[]api.Unit{unit(0, sets(1, 1)), unit(0, sets(1, 2), sets(1, 1))}, []api.Pair{{Winner: 0, Loser: 1}}, api.Command{Rule: 0, Var: 1, Value: 1}, nil},
		{[]api.Unit{unit(0, sets(1, 1)), unit(1, sets(1, 1))}, nil, api.Command{Rule: 1, Var: 1, Value: 1}, nil},
		{[]api.Unit{unit(0, sets(1, 1)), unit(0, sets(1, 1))}, nil, api.Command{Rule: 0, Var: 1, Value: 1}, nil},
	} {
		p := api.Program{Vars: []api.Var{{Size: 2, Sensor: true}, {Size: 3}}, Units: test.units, Over: test.over}
		step := apply(t, p, machine.Start(p), set(0, 1))
		if !slices.Equal(step.Commands, []api.Command{test.want}) || !slices.Equal(step.Clashes, test.clashes) || step.State.Values[1] != test.want.Value {
			t.Errorf("%+v: %+v, want the command %v and the clashes %v", p, step, test.want, test.clashes)
		}
	}
}

// P10.1: there are at most 32 waves.
func TestEndless(t *testing.T) {
	for length, want := range map[int]bool{1: false, 31: false, 32: true, 60: true} {
		p := api.Program{Vars: slices.Repeat([]api.Var{{Size: 2, Sensor: true}}, length+1)}
		for i := range length {
			p.Units = append(p.Units, api.Unit{Timer: -1, Trigger: is(i, 1), Action: sets(i+1, 1)})
		}
		step := apply(t, p, machine.Start(p), set(0, 1))
		if fired := min(length, 32); step.Endless != want || len(step.Firings) != fired || step.State.Values[fired] != 1 {
			t.Errorf("a chain of %d units: %+v", length, step)
		}
	}
}

// P10.1 and P10.7: programs that are not valid, for all inputs.
func TestInvalidPrograms(t *testing.T) {
	s := machine.Start(full())
	for name, change := range map[string]func(*api.Program){
		"timers":          func(p *api.Program) { p.Timers = 41 },
		"size":            func(p *api.Program) { p.Vars[1].Size = 17 },
		"priority":        func(p *api.Program) { p.Units[0].Priority = 101 },
		"no trigger":      func(p *api.Program) { p.Units[0].Trigger = nil },
		"a wrong trigger": func(p *api.Program) { p.Units[0].Trigger = code(api.InsConst, 1) },
		"a wrong guard":   func(p *api.Program) { p.Units[1].Guard = is(3, 0) },
		"a wrong action":  func(p *api.Program) { p.Units[1].Action = sets(1, 3) },
		"a wrong law":     func(p *api.Program) { p.Laws[0].Cond = sets(0, 1) },
		"a wrong pair":    func(p *api.Program) { p.Over[0].Loser = 1 },
	} {
		p := full()
		change(&p)
		for _, in := range []api.Input{{}, set(0, 1), set(9, 9), expire(0), wait(1), wait(-1)} {
			wantError(t, p, s, in, api.ErrArg)
		}
		if got := machine.Start(p); !reflect.DeepEqual(got, api.State{}) {
			t.Errorf("%s: Start = %v", name, got)
		}
	}
}

// P10.1 and P10.7: states that are not well-formed, and inputs that are not permitted.
func TestInvalidStates(t *testing.T) {
	p := full()
	right := api.State{Values: []int{1, 1, 1}, Left: []int{-1, 86400}, Over: []int{5, 86401}}
	apply(t, p, right, wait(1))
	apply(t, p, right, set(0, 0))
	for _, s := range []api.State{
		{},
		{Values: []int{1, 1}, Left: []int{-1, 5}, Over: []int{0, 0}},
		{Values: []int{1, 1, 1, 0}, Left: []int{-1, 5}, Over: []int{0, 0}},
		{Values: []int{1, 1, 1}, Left: []int{-1}, Over: []int{0, 0}},
		{Values: []int{1, 1, 1}, Left: []int{-1, 5, -1}, Over: []int{0, 0}},
		{Values: []int{1, 1, 1}, Left: []int{-1, 5}, Over: []int{0}},
		{Values: []int{1, 1, 1}, Left: []int{-1, 5}, Over: []int{0, 0, -1}},
		{Values: []int{2, 1, 1}, Left: []int{-1, 5}, Over: []int{0, 0}},
		{Values: []int{1, 1, -1}, Left: []int{-1, 5}, Over: []int{0, -1}},
		{Values: []int{1, 1, 1}, Left: []int{-2, 5}, Over: []int{0, 0}},
		{Values: []int{1, 1, 1}, Left: []int{-1, 86401}, Over: []int{0, 0}},
		{Values: []int{1, 1, 1}, Left: []int{-1, 5}, Over: []int{-1, 0}},
		{Values: []int{1, 2, 1}, Left: []int{-1, 5}, Over: []int{0, 0}},
		{Values: []int{1, 1, 1}, Left: []int{-1, 5}, Over: []int{6, 0}},
		{Values: []int{1, 1, 1}, Left: []int{-1, 5}, Over: []int{-2, 0}},
		{Values: []int{1, 1, 1}, Left: []int{-1, 5}, Over: []int{0, 86402}},
	} {
		for _, in := range []api.Input{set(0, 0), wait(-1), {Kind: 4}} {
			wantError(t, p, s, in, api.ErrArg)
		}
	}
	for _, kind := range []int{0, 4, -1, 1 << 62} {
		wantError(t, p, right, api.Input{Kind: kind, Seconds: 1}, api.ErrArg)
	}
	right.Left[1] = 3
	for _, in := range []api.Input{set(0, 1), set(0, 2), set(0, -1), set(1, 0), set(3, 0), set(-1, 0), expire(0), expire(1), expire(2), expire(-1), wait(0), wait(-1), wait(4), wait(1 << 62)} {
		wantError(t, p, right, in, api.ErrState)
	}
	right.Left[1] = -1
	wantError(t, p, right, wait(86401), api.ErrState)
}

// P10.1: random runs are what the reference says.
func TestRandom(t *testing.T) {
	endless, clashes, deep := 0, 0, 0
	walks(1, false, 4000, func(m maker, p api.Program, s api.State, in api.Input) {
		wantStep(t, api.Step{State: machine.Start(p)}, api.Step{State: refStart(p)})
		if other := m.anyInput(); !refPermitted(p, s, other) {
			wantError(t, p, s, other, api.ErrState)
		}
		want := refApply(p, s, in)
		wantStep(t, apply(t, p, s, in), want)
		if want.Endless {
			endless++
		}
		if len(want.Clashes) > 0 {
			clashes++
		}
		if n := len(want.Firings); n > 0 && want.Firings[n-1].Wave > 1 {
			deep++
		}
	})
	if endless < 50 || clashes < 300 || deep < 300 {
		t.Errorf("%d endless cascades, %d with clashes and %d with some waves are too few", endless, clashes, deep)
	}
}
