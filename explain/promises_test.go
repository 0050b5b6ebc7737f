package explain_test

import (
	"slices"
	"testing"

	"domicile/api"
	"domicile/explain"
	"domicile/rules"
)

// P42.2, P42.3: the root is the command; the leaves are inputs up to its step, which is one of them.
func TestRoots(t *testing.T) {
	each(t, 422, 800, func(_ maker, r run, step, command int, w api.Why) {
		c := r.steps[step].Commands[command]
		if w.Kind != api.WhyRule || w.Step != step || w.Rule != c.Rule || w.Var != c.Var || w.Value != c.Value {
			t.Fatalf("%+v is the tree of %v in the step %d", w, c, step)
		}
		leaves := explain.Leaves(w)
		if !slices.Contains(leaves, step) || slices.Max(leaves) != step {
			t.Fatalf("%+v of the step %d has the leaves %v", w, step, leaves)
		}
		for _, leaf := range leaves {
			if leaf < 0 || r.l[leaf].Kind == api.InWait {
				t.Fatalf("%+v has the leaf %v", w, r.l[leaf])
			}
		}
	})
}

// P42.4, P42.8: nodes are what happened, and no cause is later than what it causes.
func TestNodes(t *testing.T) {
	each(t, 424, 800, func(_ maker, r run, _, _ int, w api.Why) {
		nodes(w, func(w api.Why) {
			for _, cause := range w.From {
				if cause.Step > w.Step {
					t.Fatalf("%+v is later than %+v", cause, w)
				}
			}
			ok := false
			switch w.Kind {
			case api.WhyStart:
				ok = w.Value == r.m.Vars[w.Var].Start && w.Rule == -1 && w.Step == 0 && len(w.From) == 0
			case api.WhyInput:
				in := r.l[w.Step]
				ok = w.Rule == -1 && (w.Var == -1 && in.Kind == api.InExpire && in.Timer == w.Value && len(w.From) == 1 || w.Var >= 0 && in.Kind == api.InSet && in.Var == w.Var && in.Value == w.Value && len(w.From) == 0)
			case api.WhyRule:
				fired := slices.ContainsFunc(r.steps[w.Step].Firings, func(f api.Firing) bool { return f.Rule == w.Rule })
				rule := r.m.Rules[w.Rule]
				does := slices.Contains(rule.Sets, api.Set{Var: w.Var, Value: w.Value})
				if w.Var == -1 {
					does = slices.ContainsFunc(rule.Starts, func(s api.Start) bool { return s.Timer == w.Value && s.Seconds > 0 })
				}
				ok = fired && does
			}
			if !ok {
				t.Fatalf("%+v in %v", w, r.l)
			}
		})
	})
}

// P42.5: the values of the causes satisfy the trigger and the guard.
func TestSufficiency(t *testing.T) {
	guards := 0
	each(t, 425, 800, func(_ maker, r run, _, _ int, w api.Why) {
		nodes(w, func(w api.Why) {
			if w.Kind != api.WhyRule {
				return
			}
			rule := r.m.Rules[w.Rule]
			atoms := append([]api.Atom{rule.Trigger}, rule.Guard...)
			if len(w.From) != len(atoms) {
				t.Fatalf("%+v of %+v", w, rule)
			}
			for i, a := range atoms {
				cause := w.From[i]
				if i == 0 && rule.Timer >= 0 {
					if cause.Kind != api.WhyInput || cause.Var != -1 || cause.Value != rule.Timer {
						t.Fatalf("%+v of %+v", w, rule)
					}
					continue
				}
				values := make([]int, len(r.m.Vars))
				values[a.Var] = cause.Value
				if cause.Var != a.Var || !rules.Holds(a, values) {
					t.Fatalf("%+v of %+v", w, rule)
				}
				guards += min(i, 1)
			}
		})
	})
	if guards < 1000 {
		t.Errorf("only %d comparisons", guards)
	}
}

// cloned copies a tree.
func cloned(w api.Why) api.Why {
	w.From = slices.Clone(w.From)
	for i := range w.From {
		w.From[i] = cloned(w.From[i])
	}
	return w
}

// pointers returns all nodes of a tree, to change them.
func pointers(w *api.Why) []*api.Why {
	l := []*api.Why{w}
	for i := range w.From {
		l = append(l, pointers(&w.From[i])...)
	}
	return l
}

// P42.6: Check accepts the tree, and none with another node.
func TestChecking(t *testing.T) {
	each(t, 426, 400, func(m maker, r run, step, command int, w api.Why) {
		if !explain.Check(r.m, r.l, step, command, w) {
			t.Fatalf("Check refuses %+v", w)
		}
		for range 8 {
			other := cloned(w)
			l := pointers(&other)
			node := l[m.Intn(len(l))]
			switch m.Intn(7) {
			case 0:
				node.Kind++
			case 1:
				node.Step++
			case 2:
				node.Rule--
			case 3:
				node.Var++
			case 4:
				node.Value--
			case 5:
				node.From = append(node.From, api.Why{})
			case 6:
				if len(node.From) == 0 {
					continue
				}
				node.From = node.From[1:]
			}
			if explain.Check(r.m, r.l, step, command, other) {
				t.Fatalf("Check accepts %+v in the place of %+v", other, w)
			}
		}
	})
}

// P42.7: what comes later does not matter.
func TestPast(t *testing.T) {
	each(t, 427, 400, func(_ maker, r run, step, command int, w api.Why) {
		later := append(slices.Clone(r.l[:step+1]), api.Input{Kind: 77})
		for _, l := range [][]api.Input{r.l[:step+1], later} {
			if got, err := explain.Tree(r.m, l, step, command); err != api.OK || !same(got, w) {
				t.Fatalf("Tree of %v = %+v, %d, want %+v", l, got, err, w)
			}
		}
	})
}
