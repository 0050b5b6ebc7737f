package symmetry_test

import (
	"math/rand"
	"slices"
	"testing"

	"domicile/api"
	"domicile/rules"
	"domicile/symmetry"
)

// P16.2: exchanging twice yields the model, the order of the devices does not matter, and the model stays well-formed.
func TestTwice(t *testing.T) {
	m := maker{rand.New(rand.NewSource(10))}
	exchanges := 0
	for range 1500 {
		model := m.model()
		for _, x := range refDevices(model) {
			for _, y := range refDevices(model) {
				once, err := symmetry.Exchange(model, x, y)
				if err != api.OK {
					continue
				}
				other, _ := symmetry.Exchange(model, y, x)
				again, _ := symmetry.Exchange(once, x, y)
				if !rules.Valid(once) || !same(once, other) || !same(again, model) {
					t.Errorf("%+v with %v and %v exchanged: %+v, %+v, %+v", model, x, y, once, other, again)
				}
				exchanges++
			}
		}
	}
	if exchanges < 2500 {
		t.Errorf("%d exchanges", exchanges)
	}
}

// P16.3: the order of rules, laws and guards does not matter.
func TestOrder(t *testing.T) {
	m := maker{rand.New(rand.NewSource(11))}
	for range 1500 {
		model := m.model()
		other := reversed(model)
		if !symmetry.Equal(model, other) || !symmetry.Equal(other, model) || !same(symmetry.Classes(model), symmetry.Classes(other)) {
			t.Errorf("%+v is not equal to %+v", model, other)
		}
	}
}

// P16.4: each device is in one class; different devices are in the same one exactly if they can be exchanged.
func TestClasses(t *testing.T) {
	m := maker{rand.New(rand.NewSource(12))}
	for range 1500 {
		model := m.model()
		class := map[int]int{}
		last := -1
		for i, c := range symmetry.Classes(model) {
			if !slices.IsSorted(c) || c[0] <= last {
				t.Errorf("the classes are %v", symmetry.Classes(model))
			}
			last = c[0]
			for _, device := range c {
				if _, ok := class[device]; ok {
					t.Errorf("%+v: the device %v is in two classes", model, device)
				}
				class[device] = i
			}
		}
		for _, x := range refDevices(model) {
			if _, ok := class[x]; !ok {
				t.Errorf("%+v: the device %v is in no class", model, x)
			}
			for _, y := range refDevices(model) {
				exchanged, err := symmetry.Exchange(model, x, y)
				if can := err == api.OK && symmetry.Equal(model, exchanged); x != y && can != (class[x] == class[y]) {
					t.Errorf("%+v: the devices %v and %v are in %v", model, x, y, symmetry.Classes(model))
				}
			}
		}
	}
}

// pairs calls a function with each pair of different devices of a class.
func pairs(model api.Model, each func(x, y int)) {
	for _, c := range symmetry.Classes(model) {
		for _, x := range c {
			for _, y := range c {
				if x != y {
					each(x, y)
				}
			}
		}
	}
}

// P16.5: the exchanged state and input lead to the exchanged state.
func TestSteps(t *testing.T) {
	m := maker{rand.New(rand.NewSource(13))}
	steps := 0
	for range 2000 {
		model := m.model()
		s := m.state(model)
		inputs := rules.Inputs(model, s)
		in := inputs[m.Intn(len(inputs))]
		step, err := rules.Apply(model, s, in)
		if err != api.OK || len(step.Clashes) > 0 {
			continue
		}
		pairs(model, func(x, y int) {
			partners, _ := refPartners(model, x, y)
			other := in
			if in.Kind == api.InSet {
				other.Var = partners[in.Var]
			}
			got, err := rules.Apply(model, refSwap(model, s, x, y), other)
			if want := refSwap(model, step.State, x, y); err != api.OK || !same(got.State, want) {
				t.Errorf("%+v: %v with %v and %v exchanged leads to %v, %v, want %v", model, s, x, y, got.State, err, want)
			}
			steps++
		})
	}
	if steps < 1000 {
		t.Errorf("%d steps", steps)
	}
}

// P16.6: a representative is its own one, exchanged states have the same values in theirs, and the vectors of a class are sorted.
func TestRepresentatives(t *testing.T) {
	m := maker{rand.New(rand.NewSource(14))}
	exchanges := 0
	for range 2000 {
		model := m.model()
		s := m.state(model)
		canon := symmetry.Canon(model, s)
		if _, err := rules.Apply(model, canon, api.Input{Kind: api.InWait}); err != api.ErrState {
			t.Errorf("%+v: the representative %v is not well-formed", model, canon)
		}
		if again := symmetry.Canon(model, canon); !same(again, canon) {
			t.Errorf("%+v: the representative of %v is %v", model, canon, again)
		}
		pairs(model, func(x, y int) {
			if other := symmetry.Canon(model, refSwap(model, s, x, y)); !slices.Equal(other.Values, canon.Values) {
				t.Errorf("%+v: %v with %v and %v exchanged has the representative %v, not %v", model, s, x, y, other, canon)
			}
			exchanges++
		})
		for _, class := range symmetry.Classes(model) {
			var before, after [][]int
			for _, device := range class {
				before = append(before, refVector(model, s, device))
				after = append(after, refVector(model, canon, device))
			}
			if len(class) > 1 {
				slices.SortFunc(before, slices.Compare)
			}
			if !same(before, after) {
				t.Errorf("%+v: the vectors of %v are %v, and then %v", model, class, before, after)
			}
		}
	}
	if exchanges < 1500 {
		t.Errorf("%d exchanges", exchanges)
	}
}

// P16.7: the first state is its own representative.
func TestFirstState(t *testing.T) {
	m := maker{rand.New(rand.NewSource(15))}
	for range 1500 {
		model := m.model()
		if s := rules.Start(model); !same(symmetry.Canon(model, s), s) {
			t.Errorf("%+v: the representative of %v is %v", model, s, symmetry.Canon(model, s))
		}
	}
}
