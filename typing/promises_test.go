package typing_test

import (
	"fmt"
	"math/rand"
	"reflect"
	"slices"
	"testing"

	"domicile/api"
	"domicile/parser"
	"domicile/printer"
	"domicile/rules"
	"domicile/scenes"
	"domicile/typing"
	"domicile/units"
)

// houses calls a function with random houses, some of them with faults.
func houses(seed int64, each func(m maker, h api.House)) {
	for i := range 4000 {
		m := maker{rand.New(rand.NewSource(seed*1000000 + int64(i))), []int{0, 20, 100, 0}[i%4]}
		each(m, m.house())
	}
}

// wellFormed reports whether a model of a house is well-formed as layer 7 says.
func wellFormed(m api.Model) bool {
	atom := func(a api.Atom) bool {
		if a.Var < 0 || a.Var >= len(m.Vars) || a.Op < api.OpEq || a.Op > api.OpGe {
			return false
		}
		most := m.Vars[a.Var].Size
		if a.Op == api.OpEq || a.Op == api.OpNe {
			most--
		}
		return a.Value >= 0 && a.Value <= most
	}
	atoms := func(l []api.Atom) bool {
		return len(l) <= 8 && !slices.ContainsFunc(l, func(a api.Atom) bool { return !atom(a) })
	}
	right := len(m.Vars) <= 1200 && m.Timers <= 40 && len(m.Rules) <= 400 && len(m.Laws) <= 20 && len(m.Over) == 0
	for _, v := range m.Vars {
		right = right && v.Size >= 1 && v.Size <= 16 && v.Start >= 0 && v.Start < v.Size && v.Fallback >= 0 && v.Fallback < v.Size && v.Device >= -1 && v.Attr >= -1
	}
	for _, r := range m.Rules {
		timed := r.Timer >= 0 && r.Timer < m.Timers && r.Trigger == api.Atom{}
		right = right && r.Priority >= 0 && r.Priority <= 100 && (timed || r.Timer == -1 && atom(r.Trigger)) && atoms(r.Guard)
		last := -1
		for _, s := range r.Sets {
			right = right && s.Var > last && s.Var < len(m.Vars) && s.Value >= 0 && s.Value < m.Vars[s.Var].Size
			last = s.Var
		}
		last = -1
		for _, s := range r.Starts {
			right = right && s.Timer > last && s.Timer < m.Timers && s.Seconds >= 0 && s.Seconds <= 86400
			last = s.Timer
		}
	}
	for _, l := range m.Laws {
		right = right && len(l.Cond) > 0 && atoms(l.Cond) && l.Bound >= 0 && l.Bound <= 86400
	}
	return right
}

// P6.2: there is a model exactly if there are no faults, and it is well-formed.
func TestModels(t *testing.T) {
	houses(1, func(_ maker, h api.House) {
		m, err := typing.Model(h)
		faults := typing.Check(h)
		if (err == api.OK) != (len(faults) == 0) || err == api.OK && !(wellFormed(m) && rules.Valid(m)) {
			t.Errorf("%+v has the model %+v, %v, and the faults %v", h, m, err, faults)
		}
	})
}

// P6.3: the variables stand in their order, and have as many values as there are names, or quantities.
func TestVariableOrder(t *testing.T) {
	houses(2, func(_ maker, h api.House) {
		m, err := typing.Model(h)
		if err != api.OK {
			return
		}
		names, sizes := []string{"mode", "quiet"}, []int{max(1, len(h.Modes)), 2}
		for _, p := range h.Persons {
			names, sizes = append(names, p), append(sizes, 2)
		}
		for _, d := range h.Devices {
			for _, a := range kindOf(h, d.Kind).Attrs {
				names, sizes = append(names, d.Name+"."+a.Name), append(sizes, len(grid(t, a)))
			}
		}
		for i, v := range m.Vars {
			if v.Name != names[i] || v.Size != sizes[i] {
				t.Errorf("the variable %v is %v, want %v with %v values", i, v, names[i], sizes[i])
			}
		}
		if len(m.Vars) != len(names) {
			t.Errorf("%d variables, want %d", len(m.Vars), len(names))
		}
	})
}

// kindOf returns the kind with a name.
func kindOf(h api.House, name string) api.Kind {
	return h.Kinds[slices.IndexFunc(h.Kinds, func(k api.Kind) bool { return k.Name == name })]
}

// grid returns the values of an attribute as numbers; for names, their indices.
func grid(t *testing.T, a api.Attr) []int {
	t.Helper()
	var list []int
	for i := range a.Values {
		list = append(list, i)
	}
	if len(list) > 0 {
		return list
	}
	for n := number(t, a.Low); n <= number(t, a.High); n += number(t, a.Step) {
		list = append(list, n)
	}
	return list
}

// number returns the value of a quantity.
func number(t *testing.T, q api.Quantity) int {
	t.Helper()
	_, n, err := units.Base(q)
	if err != api.OK {
		t.Fatalf("%v: %v", q, err)
	}
	return n
}

// holds compares two numbers.
func holds(op, a, b int) bool {
	return map[int]bool{api.OpEq: a == b, api.OpNe: a != b, api.OpLt: a < b, api.OpLe: a <= b, api.OpGt: a > b, api.OpGe: a >= b}[op]
}

// P6.4: a comparison of a quantity holds for an index as it holds for the quantity with this index.
func TestComparisons(t *testing.T) {
	r := rand.New(rand.NewSource(3))
	for range 20000 {
		step := q(1+r.Intn(30), []string{"s", "min", "h"}[r.Intn(3)])
		low := q(r.Intn(2000)-1000, []string{"s", "min"}[r.Intn(2)])
		size := 2 + r.Intn(15)
		high := q(number(t, low)+(size-1)*number(t, step)+r.Intn(number(t, step)), "s")
		a := api.Attr{Name: "a", Low: low, High: high, Step: step, Start: api.Literal{Quantity: low}, Fallback: api.Literal{Quantity: low}}
		literal := q(number(t, low)+r.Intn((size+2)*number(t, step))-number(t, step), "s")
		if r.Intn(2) == 0 {
			literal = q(number(t, low)+r.Intn(size)*number(t, step)+r.Intn(3)-1, "s")
		}
		op := api.OpEq + r.Intn(6)
		h := api.House{Rooms: []string{"r"}, Kinds: []api.Kind{{Name: "k", Attrs: []api.Attr{a}}}, Devices: []api.Device{{Name: "d", Kind: "k", Room: "r"}},
			Laws: []api.LawText{{Name: "l", Cond: []api.AtomText{{Ref: api.Ref{Device: "d", Attr: "a"}, Op: op, Value: api.Literal{Quantity: literal}}}, Bound: q(0, "s")}}}
		m, err := typing.Model(h)
		values := grid(t, a)
		if err != api.OK {
			if op > api.OpNe || slices.Contains(values, number(t, literal)) {
				t.Errorf("%+v: %v", h, typing.Check(h))
			}
			continue
		}
		for i, n := range values {
			if atom := m.Laws[0].Cond[0]; holds(atom.Op, i, atom.Value) != holds(op, n, number(t, literal)) {
				t.Errorf("%v with %v: the comparison %v does not hold as %v does", a, literal, atom, n)
			}
		}
	}
}

// converted returns an equal quantity with another unit, where there is one.
func converted(m maker, a api.Quantity) api.Quantity {
	factors := map[string]int{"s": 1, "min": 60, "h": 3600, "W": 1, "kW": 1000, "Wh": 1, "kWh": 1000}
	dim, n, err := units.Base(a)
	if err != api.OK {
		return a
	}
	for range 5 {
		unit := pick(m, "s", "min", "h", "W", "kW", "Wh", "kWh")
		b := q(n/factors[unit], unit)
		if otherDim, other, err := units.Base(b); err == api.OK && otherDim == dim && other == n {
			return b
		}
	}
	return a
}

// convert replaces all quantities in a tree by equal ones.
func convert(m maker, v reflect.Value) {
	if a, ok := v.Interface().(api.Quantity); ok {
		v.Set(reflect.ValueOf(converted(m, a)))
		return
	}
	switch v.Kind() {
	case reflect.Struct:
		for i := range v.NumField() {
			convert(m, v.Field(i))
		}
	case reflect.Slice:
		list := reflect.MakeSlice(v.Type(), v.Len(), v.Len())
		reflect.Copy(list, v)
		for i := range list.Len() {
			convert(m, list.Index(i))
		}
		v.Set(list)
	}
}

// P6.5: equal quantities with other units change neither the faults nor the model.
func TestUnits(t *testing.T) {
	houses(4, func(m maker, h api.House) {
		other := h
		convert(m, reflect.ValueOf(&other).Elem())
		a, errA := typing.Model(h)
		b, errB := typing.Model(other)
		if !slices.Equal(typing.Check(h), typing.Check(other)) || errA != errB || !reflect.DeepEqual(a, b) {
			t.Errorf("%+v and %+v have the faults %v and %v", h, other, typing.Check(h), typing.Check(other))
		}
	})
}

// P6.6: a scene has the effect of the settings of its overlay; only the last action about a variable or a timer counts.
func TestScenes(t *testing.T) {
	houses(5, func(m maker, h api.House) {
		model, err := typing.Model(h)
		if err != api.OK {
			return
		}
		flat := h
		flat.Rules = slices.Clone(h.Rules)
		for i, r := range flat.Rules {
			var actions []api.ActionText
			for _, a := range r.Actions {
				if a.Kind != api.ActScene {
					actions = append(actions, a)
					continue
				}
				overlay, _ := scenes.Overlay(h.Scenes, a.Scenes)
				for _, s := range overlay {
					actions = append(actions, api.ActionText{Kind: api.ActSet, Ref: s.Ref, Value: s.Value})
				}
			}
			flat.Rules[i].Actions = lastOnes(actions)
		}
		if other, err := typing.Model(flat); err != api.OK || !reflect.DeepEqual(other, model) {
			t.Errorf("%+v has the model %+v, and without scenes %+v", h, model, other)
		}
	})
}

// lastOnes returns the actions that are the last ones about their variable or timer.
func lastOnes(actions []api.ActionText) []api.ActionText {
	var list []api.ActionText
	for i, a := range actions {
		if !slices.ContainsFunc(actions[i+1:], func(b api.ActionText) bool {
			return (a.Kind == api.ActSet) == (b.Kind == api.ActSet) && (a.Kind == api.ActSet && a.Ref == b.Ref || a.Kind != api.ActSet && a.Timer == b.Timer)
		}) {
			list = append(list, a)
		}
	}
	return list
}

// P6.7: faults are in order, one for each thing, and all of one stage.
func TestFaults(t *testing.T) {
	stage := func(f api.Fault) int {
		return map[bool]int{true: 2, false: 1}[f.Of == api.OfScene] + map[bool]int{true: 2}[f.Of > api.OfScene]
	}
	houses(6, func(_ maker, h api.House) {
		faults := typing.Check(h)
		for i, f := range faults {
			if f.Err == api.OK || stage(f) != stage(faults[0]) || i > 0 && (faults[i-1].Of > f.Of || faults[i-1].Of == f.Of && faults[i-1].Index >= f.Index) {
				t.Errorf("%+v has the faults %v", h, faults)
			}
		}
	})
}

// P6.8: a further room that no device names, or a further window, does not matter.
func TestFurtherThings(t *testing.T) {
	houses(7, func(m maker, h api.House) {
		other := h
		other.Rooms = append(slices.Clone(h.Rooms), "further")
		other.Quiet = append(slices.Clone(h.Quiet), api.Window{From: m.Intn(700), To: 700 + m.Intn(700)})
		a, errA := typing.Model(h)
		b, errB := typing.Model(other)
		if !slices.Equal(typing.Check(h), typing.Check(other)) || errA != errB || !reflect.DeepEqual(a, b) {
			t.Errorf("%+v has the faults %v, and with a further room and window %v", h, typing.Check(h), typing.Check(other))
		}
	})
}

// P2 (T1): printing and parsing keep the model.
func TestPrinted(t *testing.T) {
	houses(8, func(_ maker, h api.House) {
		text := printer.Print(h)
		if text == "" {
			return
		}
		again, err, _ := parser.Parse(text)
		a, errA := typing.Model(h)
		b, errB := typing.Model(again)
		if err != api.OK || errA != errB || !reflect.DeepEqual(a, b) {
			t.Errorf("%q: %v, %v, %v", text, err, errA, errB)
		}
	})
}

// P3: equal houses have equal results, houses are not changed, and a changed result changes nothing.
func TestIndependence(t *testing.T) {
	houses(9, func(_ maker, h api.House) {
		before := fmt.Sprintf("%#v", h)
		m, err := typing.Model(h)
		want := fmt.Sprintf("%#v", m)
		clear(m.Vars)
		for i := range m.Rules {
			clear(m.Rules[i].Guard)
			clear(m.Rules[i].Sets)
		}
		again, errAgain := typing.Model(h)
		if err != errAgain || fmt.Sprintf("%#v", again) != want || fmt.Sprintf("%#v", h) != before {
			t.Errorf("%s has the model %s and then %#v", before, want, again)
		}
	})
}
