package typing_test

import (
	"fmt"
	"math/rand"
	"reflect"
	"slices"
	"strings"
	"testing"

	"domicile/api"
	"domicile/parser"
	"domicile/typing"
)

// base is a house without faults, to which tests add something.
const base = `
room hall; room bath;
kind lamp { power: off or on start off; level: 0% to 100% step 10% shown start 50% fallback 0%; motion: no or yes sensor start yes; }
kind heater { power: 0 W to 2 kW step 500 W start 0 W; temp: -5 C to 30 C step 5 C sensor private start 20 C; state: idle or busy or done start idle fallback done; }
device l: lamp in hall; device h: heater in bath;
person ann; person bob;
mode day; mode night;
timer t; timer u;
quiet 22:00 to 6:00;
scene evening layer 1 { l.power = on; h.power = 1 kW; mode = night; }
scene film layer 2 { l.power = off; }
`

// The variables of base.
const (
	vMode = iota
	vQuiet
	vAnn
	vBob
	vLPower
	vLLevel
	vLMotion
	vHPower
	vHTemp
	vHState
)

// parse returns the tree of a text.
func parse(t *testing.T, text string) api.House {
	t.Helper()
	h, err, at := parser.Parse(text)
	if err != api.OK {
		t.Fatalf("%q: error %v at %v", text, err, at)
	}
	return h
}

// wantFaults checks the faults of a house, and that it has a model exactly if there are none.
func wantFaults(t *testing.T, h api.House, want ...api.Fault) {
	t.Helper()
	if got := typing.Check(h); !slices.Equal(got, want) {
		t.Errorf("Check(%.500s) = %v, want %v", fmt.Sprintf("%+v", h), got, want)
	}
	m, err := typing.Model(h)
	if len(want) > 0 && (err != want[0].Err || !reflect.DeepEqual(m, api.Model{})) || len(want) == 0 && err != api.OK {
		t.Errorf("Model(%.500s) = %+v, %v; the faults are %v", fmt.Sprintf("%+v", h), m, err, want)
	}
}

// model returns the model of a text without faults.
func model(t *testing.T, text string) api.Model {
	t.Helper()
	h := parse(t, text)
	m, err := typing.Model(h)
	if err != api.OK {
		t.Fatalf("%q: error %v, faults %v", text, err, typing.Check(h))
	}
	return m
}

// fault returns a fault.
func fault(of, index int, err api.Errno) api.Fault { return api.Fault{Of: of, Index: index, Err: err} }

// P6.1 and P6.3: the variables of a house.
func TestVariables(t *testing.T) {
	want := []api.Var{
		{Name: "mode", Size: 2, Sensor: true, Device: -1, Attr: -1},
		{Name: "quiet", Size: 2, Sensor: true, Device: -1, Attr: -1},
		{Name: "ann", Size: 2, Sensor: true, Private: true, Device: -1, Attr: -1},
		{Name: "bob", Size: 2, Sensor: true, Private: true, Device: -1, Attr: -1},
		{Name: "l.power", Size: 2},
		{Name: "l.level", Size: 11, Start: 5, Shown: true, Attr: 1},
		{Name: "l.motion", Size: 2, Start: 1, Fallback: 1, Sensor: true, Attr: 2},
		{Name: "h.power", Size: 5, Device: 1},
		{Name: "h.temp", Size: 8, Start: 5, Fallback: 5, Sensor: true, Private: true, Device: 1, Attr: 1},
		{Name: "h.state", Size: 3, Fallback: 2, Device: 1, Attr: 2},
	}
	if m := model(t, base); !reflect.DeepEqual(m, api.Model{Vars: want, Timers: 2}) {
		t.Errorf("the model is %+v", m)
	}
	if m := model(t, ""); !reflect.DeepEqual(m, api.Model{Vars: []api.Var{{Name: "mode", Size: 1, Sensor: true, Device: -1, Attr: -1}, want[1]}}) {
		t.Errorf("the empty house has the model %+v", m)
	}
}

// P6.1 and P6.4: comparisons, with the examples of the chapter.
func TestAtoms(t *testing.T) {
	for _, test := range []struct {
		text string
		want api.Atom
		err  api.Errno
	}{
		{"h.power >= 0.7 kW", api.Atom{Var: vHPower, Op: api.OpGe, Value: 2}, api.OK},
		{"h.power <= 1 kW", api.Atom{Var: vHPower, Op: api.OpLt, Value: 3}, api.OK},
		{"h.power is 1.5 kW", api.Atom{Var: vHPower, Op: api.OpEq, Value: 3}, api.OK},
		{"h.power is not 1500 W", api.Atom{Var: vHPower, Op: api.OpNe, Value: 3}, api.OK},
		{"h.power is 700 W", api.Atom{}, api.ErrRange},
		{"h.power is not 2.5 kW", api.Atom{}, api.ErrRange},
		{"h.power is -500 W", api.Atom{}, api.ErrRange},
		{"h.power is on", api.Atom{}, api.ErrType},
		{"h.power < 5 min", api.Atom{}, api.ErrType},
		{"h.power < on", api.Atom{}, api.ErrType},
		{"h.power < 5 x", api.Atom{}, api.ErrUnit},
		{"h.power < 100000001 W", api.Atom{}, api.ErrRange},
		{"h.power is 5 x", api.Atom{}, api.ErrUnit},
		{"h.power is 5 min", api.Atom{}, api.ErrType},
		{"h.power < 1 kW", api.Atom{Var: vHPower, Op: api.OpLt, Value: 2}, api.OK},
		{"h.power > 1 kW", api.Atom{Var: vHPower, Op: api.OpGe, Value: 3}, api.OK},
		{"h.power > 999.9 W", api.Atom{Var: vHPower, Op: api.OpGe, Value: 2}, api.OK},
		{"h.power < 1000.1 W", api.Atom{Var: vHPower, Op: api.OpLt, Value: 3}, api.OK},
		{"h.power < 0 W", api.Atom{Var: vHPower, Op: api.OpLt, Value: 0}, api.OK},
		{"h.power < -100 kW", api.Atom{Var: vHPower, Op: api.OpLt, Value: 0}, api.OK},
		{"h.power >= 2 kW", api.Atom{Var: vHPower, Op: api.OpGe, Value: 4}, api.OK},
		{"h.power > 2 kW", api.Atom{Var: vHPower, Op: api.OpGe, Value: 5}, api.OK},
		{"h.power <= 90000 kW", api.Atom{Var: vHPower, Op: api.OpLt, Value: 5}, api.OK},
		{"h.temp < 0 C", api.Atom{Var: vHTemp, Op: api.OpLt, Value: 1}, api.OK},
		{"h.temp <= -5 C", api.Atom{Var: vHTemp, Op: api.OpLt, Value: 1}, api.OK},
		{"h.temp > -5.1 C", api.Atom{Var: vHTemp, Op: api.OpGe, Value: 0}, api.OK},
		{"l.level >= 33%", api.Atom{Var: vLLevel, Op: api.OpGe, Value: 4}, api.OK},
		{"l.level < 50", api.Atom{}, api.ErrType},
		{"l.power < on", api.Atom{Var: vLPower, Op: api.OpLt, Value: 1}, api.OK},
		{"l.power >= off", api.Atom{Var: vLPower, Op: api.OpGe, Value: 0}, api.OK},
		{"h.state > busy", api.Atom{Var: vHState, Op: api.OpGt, Value: 1}, api.OK},
		{"l.power is dim", api.Atom{}, api.ErrName},
		{"l.power is 1", api.Atom{}, api.ErrType},
		{"l.power < 1", api.Atom{}, api.ErrType},
		{"mode is night", api.Atom{Var: vMode, Op: api.OpEq, Value: 1}, api.OK},
		{"mode is on", api.Atom{}, api.ErrName},
		{"quiet is on", api.Atom{Var: vQuiet, Op: api.OpEq, Value: 1}, api.OK},
		{"bob is not away", api.Atom{Var: vBob, Op: api.OpNe, Value: 0}, api.OK},
		{"ann <= here", api.Atom{Var: vAnn, Op: api.OpLe, Value: 1}, api.OK},
		{"carl is here", api.Atom{}, api.ErrName},
		{"l.ann is here", api.Atom{}, api.ErrName},
		{"x.power is on", api.Atom{}, api.ErrName},
		{"l.temp is 0 C", api.Atom{}, api.ErrName},
		{"x.power is 5 x", api.Atom{}, api.ErrName},
	} {
		for _, text := range []string{"rule r priority 1 when %s do stop t;", "rule r priority 1 when timer t if quiet is on and %s do stop t;", "law x never quiet is on and %s for 1 s;"} {
			wantAtom(t, fmt.Sprintf(text, test.text), test.want, test.err)
		}
	}
}

// wantAtom checks the last comparison of a rule or law, or its error.
func wantAtom(t *testing.T, text string, want api.Atom, wantErr api.Errno) {
	t.Helper()
	h := parse(t, base+text)
	if wantErr != api.OK {
		of := api.OfRule
		if len(h.Laws) > 0 {
			of = api.OfLaw
		}
		wantFaults(t, h, fault(of, 0, wantErr))
		return
	}
	m := model(t, base+text)
	var got api.Atom
	switch {
	case len(m.Laws) > 0:
		got = m.Laws[0].Cond[1]
	case len(m.Rules[0].Guard) > 0:
		got = m.Rules[0].Guard[1]
	default:
		got = m.Rules[0].Trigger
	}
	if got != want {
		t.Errorf("%s: the comparison is %v, want %v", text, got, want)
	}
}

// P6.1 and P6.6: actions; the last setting of a variable counts, and the last start of a timer.
func TestActions(t *testing.T) {
	for _, test := range []struct {
		text   string
		sets   []api.Set
		starts []api.Start
	}{
		{"l.power = on", []api.Set{{Var: vLPower, Value: 1}}, nil},
		{"h.state = busy, l.power = on, mode = night", []api.Set{{Var: vMode, Value: 1}, {Var: vLPower, Value: 1}, {Var: vHState, Value: 1}}, nil},
		{"l.power = on, l.power = off", []api.Set{{Var: vLPower, Value: 0}}, nil},
		{"h.power = 0.5 kW", []api.Set{{Var: vHPower, Value: 1}}, nil},
		{"start t 5 min", nil, []api.Start{{Timer: 0, Seconds: 300}}},
		{"start u 24 h, start t 1 s", nil, []api.Start{{Timer: 0, Seconds: 1}, {Timer: 1, Seconds: 86400}}},
		{"start t 5 s, stop t", nil, []api.Start{{Timer: 0, Seconds: 0}}},
		{"stop u, start u 0.1 min", nil, []api.Start{{Timer: 1, Seconds: 6}}},
		{"start t 5 s, start t 6 s", nil, []api.Start{{Timer: 0, Seconds: 6}}},
		{"scene evening", []api.Set{{Var: vMode, Value: 1}, {Var: vLPower, Value: 1}, {Var: vHPower, Value: 2}}, nil},
		{"scene film over evening", []api.Set{{Var: vMode, Value: 1}, {Var: vLPower, Value: 0}, {Var: vHPower, Value: 2}}, nil},
		{"scene film, scene evening", []api.Set{{Var: vMode, Value: 1}, {Var: vLPower, Value: 1}, {Var: vHPower, Value: 2}}, nil},
		{"scene evening, h.power = 0 W, stop t", []api.Set{{Var: vMode, Value: 1}, {Var: vLPower, Value: 1}, {Var: vHPower, Value: 0}}, []api.Start{{Timer: 0, Seconds: 0}}},
		{"l.power = off, scene evening", []api.Set{{Var: vMode, Value: 1}, {Var: vLPower, Value: 1}, {Var: vHPower, Value: 2}}, nil},
	} {
		m := model(t, base+"rule r priority 100 when timer u do "+test.text+";")
		want := []api.Rule{{Name: "r", Priority: 100, Timer: 1, Sets: test.sets, Starts: test.starts}}
		if !reflect.DeepEqual(m.Rules, want) {
			t.Errorf("%s: the rules are %+v, want %+v", test.text, m.Rules, want)
		}
	}
}

// P6.1: rules and laws keep their order, names, priorities and bounds.
func TestRulesAndLaws(t *testing.T) {
	m := model(t, base+"law b never ann is here for 0 s; rule z priority 0 when ann is here if bob is away do stop t; law a never quiet is on and bob is here for 24 h; rule y priority 7 when timer t do scene film;")
	want := []api.Rule{
		{Name: "z", Timer: -1, Trigger: api.Atom{Var: vAnn, Op: api.OpEq, Value: 1}, Guard: []api.Atom{{Var: vBob, Op: api.OpEq}}, Starts: []api.Start{{}}},
		{Name: "y", Priority: 7, Sets: []api.Set{{Var: vLPower}}},
	}
	laws := []api.Law{
		{Name: "b", Cond: []api.Atom{{Var: vAnn, Op: api.OpEq, Value: 1}}},
		{Name: "a", Cond: []api.Atom{{Var: vQuiet, Op: api.OpEq, Value: 1}, {Var: vBob, Op: api.OpEq, Value: 1}}, Bound: 86400},
	}
	if !reflect.DeepEqual(m.Rules, want) || !reflect.DeepEqual(m.Laws, laws) || len(m.Over) != 0 {
		t.Errorf("the model is %+v", m)
	}
}

// P6.1: the faults of stage 1. What is added to the base has an index of its own.
func TestFirstStage(t *testing.T) {
	for _, test := range []struct {
		text string
		want []api.Fault
	}{
		{"room hall;", []api.Fault{fault(api.OfRoom, 2, api.ErrTwice)}},
		{"room Hall;", nil},
		{"kind lamp { }", []api.Fault{fault(api.OfKind, 2, api.ErrTwice)}},
		{"kind lamp { a: b or b start 5; }", []api.Fault{fault(api.OfKind, 2, api.ErrTwice)}},
		{"kind k { }", nil},
		{"kind k { a: x or y start x; a: x or y start x; }", []api.Fault{fault(api.OfKind, 2, api.ErrTwice)}},
		{"kind k { a: x or y or x start x; }", []api.Fault{fault(api.OfKind, 2, api.ErrTwice)}},
		{"kind k { a: x or x start z; }", []api.Fault{fault(api.OfKind, 2, api.ErrTwice)}},
		{"kind k { a: 0 to 5 step 0 start 0; b: x or x start x; }", []api.Fault{fault(api.OfKind, 2, api.ErrRange)}},
		{"kind k { a: x or y start z; a: x or y start x; }", []api.Fault{fault(api.OfKind, 2, api.ErrName)}},
		{"kind k { a: x or y start 1; }", []api.Fault{fault(api.OfKind, 2, api.ErrType)}},
		{"kind k { a: x or y start x fallback z; }", []api.Fault{fault(api.OfKind, 2, api.ErrName)}},
		{"kind k { a: x or y start z fallback 1; }", []api.Fault{fault(api.OfKind, 2, api.ErrName)}},
		{"kind k { a: 0 to 15 step 1 start 15; }", nil},
		{"kind k { a: 0 to 15.9 step 1 start 15; }", nil},
		{"kind k { a: 0 to 16 step 1 start 0; }", []api.Fault{fault(api.OfKind, 2, api.ErrRange)}},
		{"kind k { a: 0 to 1 step 1 start 0; }", nil},
		{"kind k { a: 0 to 0.9 step 1 start 0; }", []api.Fault{fault(api.OfKind, 2, api.ErrRange)}},
		{"kind k { a: 1 to 0 step 1 start 0; }", []api.Fault{fault(api.OfKind, 2, api.ErrRange)}},
		{"kind k { a: 1 to 0.5 step 1 start 1; }", []api.Fault{fault(api.OfKind, 2, api.ErrRange)}},
		{"kind k { a: 5 to 0 step 1 start 1; }", []api.Fault{fault(api.OfKind, 2, api.ErrRange)}},
		{"kind k { a: 0 to 5 step -1 start 0; }", []api.Fault{fault(api.OfKind, 2, api.ErrRange)}},
		{"kind k { a: 5 to 0 step -1 start 0; }", []api.Fault{fault(api.OfKind, 2, api.ErrRange)}},
		{"kind k { a: -100000000 h to 100000000 h step 0.1 s start 0 s; }", []api.Fault{fault(api.OfKind, 2, api.ErrRange)}},
		{"kind k { a: 0 x to 5 step 1 start 0; }", []api.Fault{fault(api.OfKind, 2, api.ErrUnit)}},
		{"kind k { a: 100000001 to 5 x step 1 start 0; }", []api.Fault{fault(api.OfKind, 2, api.ErrRange)}},
		{"kind k { a: 0 to 5 x step 100000001 start 0; }", []api.Fault{fault(api.OfKind, 2, api.ErrUnit)}},
		{"kind k { a: 0 to 5 C step 0 x start 0; }", []api.Fault{fault(api.OfKind, 2, api.ErrUnit)}},
		{"kind k { a: 0 to 5 C step 0 start 0; }", []api.Fault{fault(api.OfKind, 2, api.ErrType)}},
		{"kind k { a: 0 C to 5 C step 1 start 0 C; }", []api.Fault{fault(api.OfKind, 2, api.ErrType)}},
		{"kind k { a: 0 min to 1 h step 0.5 h start 1800 s fallback 60 min; }", nil},
		{"kind k { a: 0 to 5 step 1 start 0.5; }", []api.Fault{fault(api.OfKind, 2, api.ErrRange)}},
		{"kind k { a: 0 to 5 step 1 start 6; }", []api.Fault{fault(api.OfKind, 2, api.ErrRange)}},
		{"kind k { a: 0 to 5 step 1 start -1; }", []api.Fault{fault(api.OfKind, 2, api.ErrRange)}},
		{"kind k { a: 0 to 5 step 1 start on; }", []api.Fault{fault(api.OfKind, 2, api.ErrType)}},
		{"kind k { a: 0 to 5 step 1 start 1 fallback 1 C; }", []api.Fault{fault(api.OfKind, 2, api.ErrType)}},
		{"kind k { a: 0 to 5 step 1 start 1 fallback 1 x; }", []api.Fault{fault(api.OfKind, 2, api.ErrUnit)}},
		{"device l: lamp in hall;", []api.Fault{fault(api.OfDevice, 2, api.ErrTwice)}},
		{"device l: none in none;", []api.Fault{fault(api.OfDevice, 2, api.ErrTwice)}},
		{"device x: none in hall;", []api.Fault{fault(api.OfDevice, 2, api.ErrName)}},
		{"device x: lamp in cellar;", []api.Fault{fault(api.OfDevice, 2, api.ErrName)}},
		{"device x: hall in lamp;", []api.Fault{fault(api.OfDevice, 2, api.ErrName)}},
		{"device ann: lamp in hall;", nil},
		{"person ann;", []api.Fault{fault(api.OfPerson, 2, api.ErrTwice)}},
		{"person day;", nil},
		{"mode night;", []api.Fault{fault(api.OfMode, 2, api.ErrTwice)}},
		{"timer t;", []api.Fault{fault(api.OfTimer, 2, api.ErrTwice)}},
		{"quiet 6:00 to 6:00;", []api.Fault{fault(api.OfWindow, 1, api.ErrRange)}},
		{"quiet 22:00 to 6:00; quiet 6:00 to 5:59;", nil},
		{"timer t; mode night; room hall; quiet 0:00 to 0:00; device x: y in z; kind lamp { } person bob; law x never y is z for 5; rule x priority 999 when a is b do stop x; scene x layer 999 { }", []api.Fault{
			fault(api.OfRoom, 2, api.ErrTwice), fault(api.OfKind, 2, api.ErrTwice), fault(api.OfDevice, 2, api.ErrName), fault(api.OfPerson, 2, api.ErrTwice), fault(api.OfMode, 2, api.ErrTwice), fault(api.OfTimer, 2, api.ErrTwice), fault(api.OfWindow, 1, api.ErrRange)}},
	} {
		wantFaults(t, parse(t, base+test.text), test.want...)
	}
}

// P6.1: faults of trees that no text has.
func TestOtherTrees(t *testing.T) {
	on := api.Literal{Name: "on"}
	kind := func(a api.Attr) api.House { return api.House{Kinds: []api.Kind{{Name: "k", Attrs: []api.Attr{a}}}} }
	many := func(n int) api.Attr {
		a := api.Attr{Start: api.Literal{Name: "v0"}, Fallback: api.Literal{Name: "v0"}}
		for i := range n {
			a.Values = append(a.Values, fmt.Sprint("v", i))
		}
		return a
	}
	wantFaults(t, kind(many(16)))
	wantFaults(t, kind(many(17)), fault(api.OfKind, 0, api.ErrRange))
	wantFaults(t, kind(api.Attr{Values: []string{"on"}, Start: on, Fallback: on}), fault(api.OfKind, 0, api.ErrRange))
	wantFaults(t, kind(api.Attr{Values: []string{"on", "x"}, Start: on, Fallback: on, Low: q(5, "x"), Step: q(-1, "")}))
	wantFaults(t, kind(api.Attr{}), fault(api.OfKind, 0, api.ErrRange))
	wantFaults(t, kind(api.Attr{Values: []string{"", "on"}, Start: api.Literal{}, Fallback: on}), fault(api.OfKind, 0, api.ErrType))
	for _, w := range []api.Window{{From: -1, To: 5}, {From: 5, To: -1}, {From: 1440, To: 5}, {From: 5, To: 1440}, {From: -1 << 63, To: 1<<63 - 1}} {
		wantFaults(t, api.House{Quiet: []api.Window{w}}, fault(api.OfWindow, 0, api.ErrRange))
	}
	wantFaults(t, api.House{Quiet: []api.Window{{From: 0, To: 1439}, {From: 1439, To: 0}}})
	wantFaults(t, api.House{Rooms: []string{"", ""}}, fault(api.OfRoom, 1, api.ErrTwice))
}

// P6.1: references to odd names: mode and quiet are never persons, and an empty device is none.
func TestOddNames(t *testing.T) {
	h := api.House{
		Rooms: []string{"r"}, Persons: []string{"mode", "quiet", "p", ""}, Modes: []string{"m"},
		Kinds:   []api.Kind{{Name: "k", Attrs: []api.Attr{{Name: "a", Values: []string{"x", "y"}, Start: api.Literal{Name: "x"}, Fallback: api.Literal{Name: "y"}}, {Name: "p", Values: []string{"x", "y"}, Start: api.Literal{Name: "x"}, Fallback: api.Literal{Name: "y"}}}}},
		Devices: []api.Device{{Name: "", Kind: "k", Room: "r"}, {Name: "mode", Kind: "k", Room: "r"}},
	}
	for _, test := range []struct {
		ref   api.Ref
		value string
		err   api.Errno
		want  int
	}{
		{api.Ref{Attr: "mode"}, "m", api.OK, 0}, {api.Ref{Attr: "mode"}, "here", api.ErrName, 0}, {api.Ref{Attr: "quiet"}, "on", api.OK, 1}, {api.Ref{Attr: "p"}, "here", api.OK, 4}, {api.Ref{}, "here", api.OK, 5},
		{api.Ref{Attr: "a"}, "x", api.ErrName, 0}, {api.Ref{Device: "mode", Attr: "a"}, "x", api.OK, 8}, {api.Ref{Device: "mode", Attr: "p"}, "x", api.OK, 9}, {api.Ref{Device: "mode", Attr: "mode"}, "m", api.ErrName, 0},
	} {
		h.Laws = []api.LawText{{Cond: []api.AtomText{{Ref: test.ref, Op: api.OpEq, Value: api.Literal{Name: test.value}}}, Bound: q(0, "s")}}
		if test.err != api.OK {
			wantFaults(t, h, fault(api.OfLaw, 0, test.err))
		} else if m, err := typing.Model(h); err != api.OK || m.Laws[0].Cond[0].Var != test.want {
			t.Errorf("%v: %v, %v", test.ref, m.Laws, err)
		}
	}
}

// P6.1: the faults of stage 2.
func TestSecondStage(t *testing.T) {
	for _, test := range []struct {
		text string
		want []api.Fault
	}{
		{"scene film layer 0 { }", []api.Fault{fault(api.OfScene, 2, api.ErrTwice)}},
		{"scene film layer 101 { x = y; }", []api.Fault{fault(api.OfScene, 2, api.ErrTwice)}},
		{"scene x layer 100 { }", nil},
		{"scene x layer 101 { a = b; }", []api.Fault{fault(api.OfScene, 2, api.ErrRange)}},
		{"scene x layer 1 { l.power = on; a = b; l.power = 5; }", []api.Fault{fault(api.OfScene, 2, api.ErrName)}},
		{"scene x layer 1 { l.power = 5; a = b; }", []api.Fault{fault(api.OfScene, 2, api.ErrType)}},
		{"scene x layer 1 { l.power = dim; }", []api.Fault{fault(api.OfScene, 2, api.ErrName)}},
		{"scene x layer 1 { h.power = 1 x; }", []api.Fault{fault(api.OfScene, 2, api.ErrUnit)}},
		{"scene x layer 1 { h.power = 1 W; }", []api.Fault{fault(api.OfScene, 2, api.ErrRange)}},
		{"scene x layer 1 { l.motion = yes; }", []api.Fault{fault(api.OfScene, 2, api.ErrType)}},
		{"scene x layer 1 { l.motion = perhaps; }", []api.Fault{fault(api.OfScene, 2, api.ErrType)}},
		{"scene x layer 1 { quiet = on; }", []api.Fault{fault(api.OfScene, 2, api.ErrType)}},
		{"scene x layer 1 { ann = here; }", []api.Fault{fault(api.OfScene, 2, api.ErrType)}},
		{"scene x layer 1 { mode = day; }", nil},
		{"scene x layer 1 { mode = dusk; }", []api.Fault{fault(api.OfScene, 2, api.ErrName)}},
		{"scene x layer 1 { y = z; } scene x layer 1 { } scene z layer 500 { } rule x priority 500 when a is b do stop x;", []api.Fault{fault(api.OfScene, 2, api.ErrName), fault(api.OfScene, 3, api.ErrTwice), fault(api.OfScene, 4, api.ErrRange)}},
	} {
		wantFaults(t, parse(t, base+test.text), test.want...)
	}
}

// P6.1: the faults of stage 3.
func TestThirdStage(t *testing.T) {
	nine := strings.Repeat("quiet is on and ", 8) + "a is b"
	for _, test := range []struct {
		text string
		want api.Fault
	}{
		{"rule r priority 1 when quiet is on do stop t; rule r priority 101 when a is b do stop x;", fault(api.OfRule, 1, api.ErrTwice)},
		{"rule r priority 101 when a is b do stop x;", fault(api.OfRule, 0, api.ErrRange)},
		{"rule r priority 1 when timer x if " + nine + " do stop y;", fault(api.OfRule, 0, api.ErrName)},
		{"rule r priority 1 when quiet is 5 if " + nine + " do stop y;", fault(api.OfRule, 0, api.ErrType)},
		{"rule r priority 1 when quiet is on if " + nine + " do stop y;", fault(api.OfRule, 0, api.ErrLimit)},
		{"rule r priority 1 when quiet is on if quiet is 5 and a is b do stop y;", fault(api.OfRule, 0, api.ErrType)},
		{"rule r priority 1 when quiet is on if quiet is on and a is b do quiet = on;", fault(api.OfRule, 0, api.ErrName)},
		{"rule r priority 1 when quiet is on do stop t, stop x, quiet = on;", fault(api.OfRule, 0, api.ErrName)},
		{"rule r priority 1 when quiet is on do quiet = on, stop x;", fault(api.OfRule, 0, api.ErrType)},
		{"rule r priority 1 when quiet is on do l.motion = yes;", fault(api.OfRule, 0, api.ErrType)},
		{"rule r priority 1 when quiet is on do h.power = 700 W;", fault(api.OfRule, 0, api.ErrRange)},
		{"rule r priority 1 when quiet is on do start x 5 C;", fault(api.OfRule, 0, api.ErrName)},
		{"rule r priority 1 when quiet is on do start t 5 C;", fault(api.OfRule, 0, api.ErrType)},
		{"rule r priority 1 when quiet is on do start t 5 x;", fault(api.OfRule, 0, api.ErrUnit)},
		{"rule r priority 1 when quiet is on do start t 0.5 s;", fault(api.OfRule, 0, api.ErrRange)},
		{"rule r priority 1 when quiet is on do start t 0 s;", fault(api.OfRule, 0, api.ErrRange)},
		{"rule r priority 1 when quiet is on do start t -5 s;", fault(api.OfRule, 0, api.ErrRange)},
		{"rule r priority 1 when quiet is on do start t 86401 s;", fault(api.OfRule, 0, api.ErrRange)},
		{"rule r priority 1 when quiet is on do scene evening over dawn;", fault(api.OfRule, 0, api.ErrName)},
		{"law x never quiet is on for 5 C;", fault(api.OfLaw, 0, api.ErrType)},
		{"law x never quiet is on for 5;", fault(api.OfLaw, 0, api.ErrType)},
		{"law x never quiet is on for 5 x;", fault(api.OfLaw, 0, api.ErrUnit)},
		{"law x never quiet is on for 0.5 s;", fault(api.OfLaw, 0, api.ErrRange)},
		{"law x never quiet is on for -1 s;", fault(api.OfLaw, 0, api.ErrRange)},
		{"law x never quiet is on for 86401 s;", fault(api.OfLaw, 0, api.ErrRange)},
		{"law x never a is b for 5 C;", fault(api.OfLaw, 0, api.ErrName)},
		{"law x never " + nine + " for 5 C;", fault(api.OfLaw, 0, api.ErrLimit)},
		{"law x never quiet is on for 1 s; law x never a is b for 5;", fault(api.OfLaw, 1, api.ErrTwice)},
	} {
		wantFaults(t, parse(t, base+test.text), test.want)
	}
	wantFaults(t, parse(t, base+"law a never quiet is 5 for 1 s; rule b priority 101 when quiet is on do stop t; rule c priority 1 when quiet is on do stop x;"),
		fault(api.OfRule, 0, api.ErrRange), fault(api.OfRule, 1, api.ErrName), fault(api.OfLaw, 0, api.ErrType))
	wantFaults(t, parse(t, base+"rule r priority 100 when quiet is on if "+strings.Repeat("quiet is on and ", 7)+"quiet is off do stop t; law x never "+strings.Repeat("quiet is on and ", 7)+"quiet is off for 86400 s;"))
}

// P6.1: rules and laws that no text has.
func TestOtherRules(t *testing.T) {
	h := parse(t, base)
	quiet := api.AtomText{Ref: api.Ref{Attr: "quiet"}, Op: api.OpEq, Value: api.Literal{Name: "on"}}
	for _, kind := range []int{0, 5, -1} {
		h.Rules = []api.RuleText{{Trigger: quiet, Actions: []api.ActionText{{Kind: api.ActStop, Timer: "t"}, {Kind: kind, Timer: "t"}}}}
		wantFaults(t, h, fault(api.OfRule, 0, api.ErrType))
	}
	for _, op := range []int{0, 7, -1} {
		wrong := quiet
		wrong.Op = op
		h.Rules = []api.RuleText{{Trigger: wrong}}
		wantFaults(t, h, fault(api.OfRule, 0, api.ErrType))
		wrong.Value.Name = "nothing"
		h.Rules = []api.RuleText{{Trigger: wrong}}
		wantFaults(t, h, fault(api.OfRule, 0, api.ErrType))
		wrong.Ref.Attr = "nobody"
		h.Rules = []api.RuleText{{Trigger: wrong}}
		wantFaults(t, h, fault(api.OfRule, 0, api.ErrName))
	}
	h.Rules = []api.RuleText{{Trigger: quiet, Priority: -1}}
	wantFaults(t, h, fault(api.OfRule, 0, api.ErrRange))
	h.Rules = []api.RuleText{{Name: "a", Trigger: quiet}, {Name: "b", Timer: "t", Trigger: api.AtomText{Op: 99}, Actions: []api.ActionText{{Kind: api.ActScene}}}}
	wantFaults(t, h)
	h.Laws = []api.LawText{{Bound: q(1, "C")}}
	wantFaults(t, h, fault(api.OfLaw, 0, api.ErrLimit))
	h.Laws, h.Scenes[1].Layer = nil, -1
	wantFaults(t, h, fault(api.OfScene, 1, api.ErrRange))
}

// P6.1: the limits of all lists: one fault for the first element beyond, and none for those after it.
func TestLimits(t *testing.T) {
	quiet := api.AtomText{Ref: api.Ref{Attr: "quiet"}, Op: api.OpEq, Value: api.Literal{Name: "on"}}
	for _, test := range []struct {
		of, limit int
		add       func(h *api.House, name string)
	}{
		{api.OfRoom, 64, func(h *api.House, name string) { h.Rooms = append(h.Rooms, name) }},
		{api.OfKind, 64, func(h *api.House, name string) { h.Kinds = append(h.Kinds, api.Kind{Name: name}) }},
		{api.OfDevice, 500, func(h *api.House, name string) {
			h.Rooms, h.Kinds = []string{"r"}, []api.Kind{{Name: "k"}}
			h.Devices = append(h.Devices, api.Device{Name: name, Kind: "k", Room: "r"})
		}},
		{api.OfPerson, 16, func(h *api.House, name string) { h.Persons = append(h.Persons, name) }},
		{api.OfMode, 16, func(h *api.House, name string) { h.Modes = append(h.Modes, name) }},
		{api.OfTimer, 40, func(h *api.House, name string) { h.Timers = append(h.Timers, name) }},
		{api.OfWindow, 8, func(h *api.House, _ string) { h.Quiet = append(h.Quiet, api.Window{From: 1, To: 2}) }},
		{api.OfScene, 40, func(h *api.House, name string) { h.Scenes = append(h.Scenes, api.Scene{Name: name}) }},
		{api.OfRule, 400, func(h *api.House, name string) { h.Rules = append(h.Rules, api.RuleText{Name: name, Trigger: quiet}) }},
		{api.OfLaw, 20, func(h *api.House, name string) {
			h.Laws = append(h.Laws, api.LawText{Name: name, Cond: []api.AtomText{quiet}, Bound: q(10, "s")})
		}},
	} {
		var h api.House
		for i := range test.limit {
			test.add(&h, fmt.Sprint("n", i))
		}
		wantFaults(t, h)
		test.add(&h, "n0")
		over := fault(test.of, test.limit, api.ErrLimit)
		wantFaults(t, h, over)
		test.add(&h, "more")
		wantFaults(t, h, over)
		if test.add(&h, "n1"); test.of != api.OfWindow {
			wantFaults(t, h, over, fault(test.of, test.limit+2, api.ErrTwice))
		}
	}
}

// P6.1: the limit of variables.
func TestMaxVars(t *testing.T) {
	var k api.Kind
	for i := range 100 {
		k.Attrs = append(k.Attrs, api.Attr{Name: fmt.Sprint("a", i), Values: []string{"x", "y"}, Start: api.Literal{Name: "x"}, Fallback: api.Literal{Name: "x"}})
	}
	k.Name = "big"
	h := api.House{Rooms: []string{"r"}, Kinds: []api.Kind{k, {Name: "small", Attrs: k.Attrs[:49]}, {Name: "one", Attrs: k.Attrs[:1]}, {Name: "none"}}}
	for i := range 11 {
		h.Devices = append(h.Devices, api.Device{Name: fmt.Sprint("d", i), Kind: "big", Room: "r"})
	}
	h.Devices = append(h.Devices, api.Device{Name: "s", Kind: "small", Room: "r"}, api.Device{Name: "s2", Kind: "small", Room: "r"})
	wantFaults(t, h)
	if m, err := typing.Model(h); err != api.OK || len(m.Vars) != 1200 {
		t.Errorf("%d variables, %v", len(m.Vars), err)
	}
	h.Devices = append(h.Devices, api.Device{Name: "e", Kind: "none", Room: "r"})
	wantFaults(t, h)
	h.Persons = []string{"p"}
	wantFaults(t, h, fault(api.OfDevice, 12, api.ErrLimit), fault(api.OfDevice, 13, api.ErrLimit))
	h.Persons = nil
	h.Devices = append(h.Devices, api.Device{Name: "f", Kind: "one", Room: "r"}, api.Device{Name: "f", Kind: "none", Room: "r"}, api.Device{Name: "g", Kind: "none", Room: "nowhere"}, api.Device{Name: "h", Kind: "none", Room: "r"})
	wantFaults(t, h, fault(api.OfDevice, 14, api.ErrLimit), fault(api.OfDevice, 15, api.ErrTwice), fault(api.OfDevice, 16, api.ErrName), fault(api.OfDevice, 17, api.ErrLimit))
}

// P6.1: random houses have the faults and the models of the reference.
func TestRandom(t *testing.T) {
	faulty, right := 0, 0
	for i := range 20000 {
		m := maker{rand.New(rand.NewSource(int64(i))), []int{0, 10, 40, 100, 300}[i%5]}
		h := m.house()
		wantFaults, wantModel := reference(h)
		if got := typing.Check(h); !slices.Equal(got, wantFaults) {
			t.Errorf("Check(%+v) = %v, want %v", h, got, wantFaults)
		}
		got, err := typing.Model(h)
		if len(wantFaults) > 0 {
			faulty++
			if err != wantFaults[0].Err || !reflect.DeepEqual(got, api.Model{}) {
				t.Errorf("Model(%+v) = %+v, %v, want the error %v", h, got, err, wantFaults[0].Err)
			}
			continue
		}
		right++
		if err != api.OK || !reflect.DeepEqual(got, wantModel) {
			t.Errorf("Model(%+v) = %+v, %v, want %+v", h, got, err, wantModel)
		}
	}
	if faulty < 2000 || right < 2000 {
		t.Errorf("%d houses with faults and %d without are too few", faulty, right)
	}
}
