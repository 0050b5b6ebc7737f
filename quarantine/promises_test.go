package quarantine_test

import (
	"math/rand"
	"slices"
	"testing"

	"domicile/api"
	"domicile/quarantine"
	"domicile/rules"
)

// removed calls f with random models and the models without one of their devices.
func removed(seed int64, n int, f func(m maker, model, left api.Model, device int)) {
	m := maker{rand.New(rand.NewSource(seed))}
	for range n {
		model, device := m.model(), m.Intn(4)
		if left, err := quarantine.Remove(model, device); err == api.OK {
			f(m, model, left, device)
		}
	}
}

// P26.2: the model is well-formed, and has the same variables.
func TestVariables(t *testing.T) {
	removed(262, 1000, func(_ maker, model, left api.Model, device int) {
		vars := slices.Clone(left.Vars)
		for i, v := range model.Vars {
			if v.Device == device && (vars[i].Sensor || vars[i].Start != v.Fallback) {
				t.Fatalf("%+v", left)
			}
			if v.Device == device {
				vars[i].Start, vars[i].Sensor = v.Start, v.Sensor
			}
		}
		if !rules.Valid(left) || !same(vars, model.Vars) {
			t.Fatalf("%+v becomes %+v", model, left)
		}
	})
}

// P26.3: no rule depends on the device; the others are unchanged, in order.
func TestRules(t *testing.T) {
	removed(263, 1000, func(_ maker, model, left api.Model, device int) {
		if l := quarantine.Depend(left, device); len(l) > 0 {
			t.Fatalf("%v of %+v depend on %d", l, left, device)
		}
		depend := quarantine.Depend(model, device)
		rest := left.Rules
		for i, r := range model.Rules {
			if slices.Contains(depend, i) {
				continue
			}
			at := slices.IndexFunc(rest, func(o api.Rule) bool { return same(o, r) })
			if at < 0 {
				t.Fatalf("the rule %d of %+v is not in %+v", i, model, left)
			}
			rest = rest[at+1:]
		}
	})
}

// kept returns the old indices of the rules that are left.
func kept(model api.Model, device int) []int {
	var list []int
	for i, r := range model.Rules {
		one := api.Model{Vars: model.Vars, Timers: model.Timers, Rules: []api.Rule{r}}
		if left, _ := refRemove(one, device); len(left.Rules) > 0 {
			list = append(list, i)
		}
	}
	return list
}

// P26.4, P26.6: in each run, the model does the same as the one with the device at rest.
func TestRuns(t *testing.T) {
	firings, clashes, laws := 0, 0, 0
	removed(264, 5000, func(m maker, model, left api.Model, device int) {
		rest := atRest(model, device)
		old := kept(model, device)
		lawsLeft := func(over []int) []int {
			var list []int
			for i, l := range model.Laws {
				one, _ := refRemove(api.Model{Vars: model.Vars, Laws: []api.Law{l}}, device)
				if len(one.Laws) > 0 {
					list = append(list, over[i])
				} else if over[i] != -1 {
					t.Fatalf("%+v: the law %d counts", rest, i)
				}
			}
			return list
		}
		a, b := rules.Start(left), rules.Start(rest)
		for range 16 {
			in, ok := m.input(left, a)
			if !ok {
				break
			}
			x, errX := rules.Apply(left, a, in)
			y, errY := rules.Apply(rest, b, in)
			for i := range x.Commands {
				x.Commands[i].Rule = old[x.Commands[i].Rule]
			}
			for i := range x.Firings {
				x.Firings[i].Rule = old[x.Firings[i].Rule]
			}
			for i := range x.Clashes {
				x.Clashes[i].First, x.Clashes[i].Second = old[x.Clashes[i].First], old[x.Clashes[i].Second]
			}
			a, b = x.State, y.State
			if errX != errY || !slices.Equal(a.Values, b.Values) || !slices.Equal(a.Left, b.Left) || !slices.Equal(a.Over, lawsLeft(b.Over)) ||
				!same(x.Commands, y.Commands) || !same(x.Firings, y.Firings) || !same(x.Clashes, y.Clashes) || x.Endless != y.Endless {
				t.Fatalf("%+v without %d: after %v %+v, but at rest %+v", model, device, in, x, y)
			}
			firings += len(x.Firings)
			clashes += len(x.Clashes)
			for _, over := range a.Over {
				if over > 0 {
					laws++
				}
			}
			for i, v := range model.Vars {
				if v.Device == device && a.Values[i] != v.Fallback {
					t.Fatalf("%+v without %d: %v after %v", model, device, a, in)
				}
			}
			for _, c := range x.Commands {
				if model.Vars[c.Var].Device == device {
					t.Fatalf("%+v without %d: %v", model, device, c)
				}
			}
		}
	})
	if firings < 1000 || clashes < 50 || laws < 500 {
		t.Errorf("the test covers too little: %d, %d, %d", firings, clashes, laws)
	}
}

// P26.5: a device is removed once, and two devices in any order.
func TestTwice(t *testing.T) {
	both := 0
	removed(265, 2000, func(_ maker, model, left api.Model, device int) {
		if again, err := quarantine.Remove(left, device); err != api.OK || !same(again, left) {
			t.Fatalf("%+v without %d: %+v, again %+v", model, device, left, again)
		}
		other := (device + 1) % 4
		a, errA := quarantine.Remove(left, other)
		b, errB := quarantine.Remove(model, other)
		if errB == api.OK {
			b, errB = quarantine.Remove(b, device)
		}
		if errA != errB || !same(a, b) {
			t.Fatalf("%+v without %d and %d: %+v, %d, but %+v, %d", model, device, other, a, errA, b, errB)
		}
		if errA == api.OK {
			both++
		}
	})
	if both < 200 {
		t.Errorf("only %d times two devices", both)
	}
}

// P26.7: without rules and laws about the device, only its variables change.
func TestOthers(t *testing.T) {
	found := 0
	removed(267, 3000, func(_ maker, model, left api.Model, device int) {
		for _, l := range model.Laws {
			for _, a := range l.Cond {
				if model.Vars[a.Var].Device == device {
					return
				}
			}
		}
		if len(quarantine.Depend(model, device)) > 0 {
			return
		}
		found++
		if !same(left.Rules, model.Rules) || !same(left.Laws, model.Laws) || !same(left.Over, model.Over) {
			t.Fatalf("%+v without %d: %+v", model, device, left)
		}
	})
	if found < 100 {
		t.Errorf("only %d devices", found)
	}
}
