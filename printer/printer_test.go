package printer_test

import (
	"math/rand"
	"reflect"
	"strings"
	"testing"

	"domicile/api"
	"domicile/printer"
)

// wantText checks the canonical text of a house.
func wantText(t *testing.T, h api.House, want string) {
	t.Helper()
	if !printer.Printable(h) {
		t.Errorf("%+v is not printable", h)
	}
	if got := printer.Print(h); got != want {
		t.Errorf("Print(%+v) = %q, want %q", h, got, want)
	}
}

// wantNone checks that a house is not printable.
func wantNone(t *testing.T, h api.House) {
	t.Helper()
	if got := printer.Print(h); got != "" || printer.Printable(h) {
		t.Errorf("Print(%+v) = %q, Printable %v, want none", h, got, printer.Printable(h))
	}
}

// called, measured, tenths, ref and atom return parts of trees.
func called(name string) api.Literal          { return api.Literal{Name: name} }
func measured(n int, unit string) api.Literal { return api.Literal{Quantity: tenths(n, unit)} }
func tenths(n int, unit string) api.Quantity  { return api.Quantity{Tenths: n, Unit: unit} }
func ref(device, attr string) api.Ref         { return api.Ref{Device: device, Attr: attr} }
func atom(r api.Ref, op int, v api.Literal) api.AtomText {
	return api.AtomText{Ref: r, Op: op, Value: v}
}

// P4.1: the canonical texts of items, with the examples of the chapter.
func TestTexts(t *testing.T) {
	for _, test := range []struct {
		h    api.House
		want string
	}{
		{api.House{}, ""},
		{api.House{Rooms: []string{"hall", "bath"}}, "room hall;\nroom bath;\n"},
		{api.House{Persons: []string{"p"}, Modes: []string{"m"}, Timers: []string{"t"}}, "person p;\nmode m;\ntimer t;\n"},
		{api.House{Kinds: []api.Kind{{Name: "k"}}}, "kind k {\n}\n"},
		{api.House{Kinds: []api.Kind{{Name: "lamp", Attrs: []api.Attr{
			{Name: "power", Values: []string{"off", "on"}, Start: called("off"), Fallback: called("off")},
			{Name: "level", High: tenths(1000, "%"), Low: tenths(0, "%"), Step: tenths(100, "%"), Sensor: true, Start: measured(0, "%"), Fallback: measured(500, "%")}}}}},
			"kind lamp {\n  power: off or on start off;\n  level: 0% to 100% step 10% sensor start 0% fallback 50%;\n}\n"},
		{api.House{Kinds: []api.Kind{{Name: "k", Attrs: []api.Attr{{Name: "a", Values: []string{"x", "y", "z"}, Sensor: true, Private: true, Shown: true, Start: called("y"), Fallback: measured(0, "")}}}}},
			"kind k {\n  a: x or y or z sensor private shown start y fallback 0;\n}\n"},
		{api.House{Devices: []api.Device{{Name: "l", Kind: "lamp", Room: "hall"}}}, "device l: lamp in hall;\n"},
		{api.House{Quiet: []api.Window{{From: 1320, To: 365}, {From: 0, To: 1439}, {From: 9, To: 600}}}, "quiet 22:00 to 6:05;\nquiet 0:00 to 23:59;\nquiet 0:09 to 10:00;\n"},
		{api.House{Scenes: []api.Scene{{Name: "s", Layer: 0}, {Name: "u", Layer: 1000000, Settings: []api.Setting{{Ref: ref("l", "power"), Value: called("on")}, {Ref: ref("", "mode"), Value: measured(-5, "C")}}}}},
			"scene s layer 0 {\n}\nscene u layer 1000000 {\n  l.power = on;\n  mode = -0.5 C;\n}\n"},
		{api.House{Laws: []api.LawText{{Name: "gas", Cond: []api.AtomText{atom(ref("alarm", "state"), api.OpEq, called("on"))}, Bound: tenths(20, "s")}}},
			"law gas never alarm.state is on for 2 s;\n"},
		{api.House{Laws: []api.LawText{{Name: "x", Cond: []api.AtomText{atom(ref("", "quiet"), api.OpGt, measured(10, "")), atom(ref("", "p"), api.OpGe, measured(9999999999, "%"))}, Bound: tenths(-9999999999, "")}}},
			"law x never quiet > 1 and p >= 999999999.9% for -999999999.9;\n"},
	} {
		wantText(t, test.h, test.want)
	}
}

// P4.1: the order of the items in the text of a house.
func TestOrder(t *testing.T) {
	h := api.House{
		Laws: []api.LawText{{Name: "l", Cond: []api.AtomText{atom(ref("", "p"), api.OpNe, called("here"))}}}, Rules: []api.RuleText{plainRule()}, Scenes: []api.Scene{{Name: "s"}}, Quiet: []api.Window{{From: 1, To: 2}},
		Timers: []string{"t"}, Modes: []string{"m"}, Persons: []string{"p"}, Devices: []api.Device{{Name: "d", Kind: "k", Room: "r"}}, Kinds: []api.Kind{{Name: "k"}}, Rooms: []string{"r"},
	}
	wantText(t, h, "room r;\nkind k {\n}\ndevice d: k in r;\nperson p;\nmode m;\ntimer t;\nquiet 0:01 to 0:02;\nscene s layer 0 {\n}\nrule r priority 0 when timer t do stop t;\nlaw l never p is not here for 0;\n")
}

// plainRule returns a short printable rule.
func plainRule() api.RuleText {
	return api.RuleText{Name: "r", Timer: "t", Actions: []api.ActionText{{Kind: api.ActStop, Timer: "t"}}}
}

// P4.1: the texts of rules; they have no line feed.
func TestRules(t *testing.T) {
	on := called("on")
	for _, test := range []struct {
		r    api.RuleText
		want string
	}{
		{plainRule(), "rule r priority 0 when timer t do stop t;"},
		{api.RuleText{Name: "r", Priority: 3, Trigger: atom(ref("l", "motion"), api.OpEq, on), Guard: []api.AtomText{atom(ref("", "mode"), api.OpNe, called("away")), atom(ref("t", "temp"), api.OpLt, measured(215, "C"))},
			Actions: []api.ActionText{{Kind: api.ActSet, Ref: ref("l", "power"), Value: on}, {Kind: api.ActStart, Timer: "t1", Duration: tenths(50, "min")}, {Kind: api.ActScene, Scenes: []string{"a", "b"}}}},
			"rule r priority 3 when l.motion is on if mode is not away and t.temp < 21.5 C do l.power = on, start t1 5 min, scene a over b;"},
		{api.RuleText{Name: "r", Priority: 1000000, Trigger: atom(ref("", "a"), api.OpLe, measured(1, "")), Actions: []api.ActionText{{Kind: api.ActScene, Scenes: []string{"c"}}}}, "rule r priority 1000000 when a <= 0.1 do scene c;"},
		{api.RuleText{}, ""},
		{api.RuleText{Name: "r", Timer: "t"}, ""},
	} {
		if got := printer.Rule(test.r); got != test.want {
			t.Errorf("Rule(%+v) = %q, want %q", test.r, got, test.want)
		}
	}
}

// P4.1: the texts of quantities.
func TestQuantities(t *testing.T) {
	for _, test := range []struct {
		q    api.Quantity
		want string
	}{
		{tenths(0, ""), "0"}, {tenths(1, ""), "0.1"}, {tenths(-1, ""), "-0.1"}, {tenths(9, "%"), "0.9%"}, {tenths(-5, "C"), "-0.5 C"}, {tenths(10, "min"), "1 min"}, {tenths(-10, "min"), "-1 min"},
		{tenths(100, "%"), "10%"}, {tenths(215, "abcdefghijklmnop"), "21.5 abcdefghijklmnop"}, {tenths(9999999999, ""), "999999999.9"}, {tenths(-9999999999, "x"), "-999999999.9 x"}, {tenths(9999999990, ""), "999999999"},
	} {
		wantText(t, api.House{Laws: []api.LawText{{Name: "l", Cond: []api.AtomText{atom(ref("", "a"), api.OpEq, called("b"))}, Bound: test.q}}}, "law l never a is b for "+test.want+";\n")
	}
}

// P4.1: random houses have the texts that the reference says, and so have their rules.
func TestRandomHouses(t *testing.T) {
	m := maker{rand.New(rand.NewSource(1))}
	for range 5000 {
		h := m.house()
		wantText(t, h, refHouse(h))
		for _, r := range h.Rules {
			if got, want := printer.Rule(r), spaced(refRule(r)); got != want {
				t.Errorf("Rule(%+v) = %q, want %q", r, got, want)
			}
		}
	}
}

// badNames are no names.
var badNames = []string{"", "_a", "1a", "a b", "a-b", "a.b", "é", "aé", "a\x00", "a;", "abcdefghijklmnopq", "%", " a", "a\n", "room", "mode", "over", "start", "[", "`", "@", "{"}

// badQuantities are not printable.
var badQuantities = []api.Quantity{tenths(10000000000, ""), tenths(-10000000000, ""), tenths(1<<63-1, "s"), tenths(-1<<63, "s"), tenths(1, " "), tenths(1, "min "), tenths(1, "%%"), tenths(1, "1"), tenths(1, "to"), tenths(1, "abcdefghijklmnopq")}

// badRefs, badLiterals and badAtoms are not printable.
var (
	badRefs     = []api.Ref{{}, ref("a", ""), ref("mode", "a"), ref("a", "mode"), ref("a", "quiet"), ref("", "room"), ref("", "a b"), ref("1", "a"), ref("a", "1"), ref("", "mode ")}
	badLiterals = []api.Literal{{Name: "a", Quantity: tenths(1, "")}, {Name: "a", Quantity: tenths(0, "s")}, {Name: "or"}, {Name: "mode"}, {Name: "5"}, {Name: " "}, {Quantity: tenths(1, "to")}, {Quantity: tenths(10000000000, "")}}
	badOps      = []int{0, -1, 7, 1 << 62, -1 << 63}
)

// P4.1: whatever is not printable in a tree makes the house so.
func TestNotPrintable(t *testing.T) {
	for _, name := range badNames {
		for _, h := range housesWithName(name) {
			wantNone(t, h)
		}
	}
	for _, q := range badQuantities {
		for _, h := range housesWithQuantity(q) {
			wantNone(t, h)
		}
	}
	for _, l := range badLiterals {
		for _, h := range housesWithLiteral(l) {
			wantNone(t, h)
		}
	}
	for _, r := range badRefs {
		for _, h := range housesWithRef(r) {
			wantNone(t, h)
		}
	}
	for _, op := range badOps {
		for _, h := range housesWithAtom(atom(ref("", "a"), op, called("b"))) {
			wantNone(t, h)
		}
	}
	for _, h := range oddHouses() {
		wantNone(t, h)
	}
}

// P4.1: the same trees with right names and values are printable; otherwise the test above would test nothing.
func TestPrintableForms(t *testing.T) {
	var list []api.House
	list = append(list, housesWithName("a")...)
	list = append(list, housesWithQuantity(tenths(5, "min"))...)
	list = append(list, housesWithLiteral(measured(5, "%"))...)
	list = append(list, housesWithRef(ref("", "mode"))...)
	list = append(list, housesWithRef(ref("a", "b"))...)
	list = append(list, housesWithAtom(atom(ref("", "a"), api.OpGe, called("b")))...)
	for _, h := range list {
		wantText(t, h, refHouse(h))
	}
}

// withRule, withAction and withAttr return houses with one part.
func withRule(r api.RuleText) api.House { return api.House{Rules: []api.RuleText{r}} }
func withAction(a api.ActionText) api.House {
	r := plainRule()
	r.Actions = append(r.Actions, a)
	return withRule(r)
}
func withAttr(a api.Attr) api.House {
	return api.House{Kinds: []api.Kind{{Name: "k", Attrs: []api.Attr{a}}}}
}

// housesWithName returns houses with a name at each place where one stands; none where another thing can stand, too.
func housesWithName(name string) []api.House {
	zero := called("a")
	list := []api.House{
		{Rooms: []string{"a", name}}, {Kinds: []api.Kind{{Name: name}}}, {Devices: []api.Device{{Name: name, Kind: "k", Room: "r"}}}, {Devices: []api.Device{{Name: "d", Kind: name, Room: "r"}}}, {Devices: []api.Device{{Name: "d", Kind: "k", Room: name}}},
		{Persons: []string{name}}, {Modes: []string{name}}, {Timers: []string{name, "a"}}, {Scenes: []api.Scene{{Name: name}}},
		{Laws: []api.LawText{{Name: name, Cond: []api.AtomText{atom(ref("", "a"), api.OpEq, zero)}}}},
		withAttr(api.Attr{Name: name, Start: zero, Fallback: zero}), withAttr(api.Attr{Name: "a", Values: []string{name, "b"}, Start: zero, Fallback: zero}), withAttr(api.Attr{Name: "a", Values: []string{"b", "c", name}, Start: zero, Fallback: zero}),
		withAction(api.ActionText{Kind: api.ActStop, Timer: name}), withAction(api.ActionText{Kind: api.ActStart, Timer: name}), withAction(api.ActionText{Kind: api.ActScene, Scenes: []string{name}}), withAction(api.ActionText{Kind: api.ActScene, Scenes: []string{"a", name}}),
	}
	r, s := plainRule(), plainRule()
	r.Name, s.Timer = name, name
	return append(list, withRule(r), withRule(s))
}

// housesWithQuantity returns houses with a quantity at each place where one stands.
func housesWithQuantity(q api.Quantity) []api.House {
	zero := called("a")
	return append(housesWithLiteral(api.Literal{Quantity: q}),
		withAttr(api.Attr{Name: "a", Low: q, Start: zero, Fallback: zero}), withAttr(api.Attr{Name: "a", High: q, Start: zero, Fallback: zero}), withAttr(api.Attr{Name: "a", Step: q, Start: zero, Fallback: zero}),
		withAction(api.ActionText{Kind: api.ActStart, Timer: "t", Duration: q}),
		api.House{Laws: []api.LawText{{Name: "l", Cond: []api.AtomText{atom(ref("", "a"), api.OpEq, zero)}, Bound: q}}})
}

// housesWithLiteral returns houses with a literal at each place where one stands.
func housesWithLiteral(l api.Literal) []api.House {
	zero := called("a")
	return append(housesWithAtom(atom(ref("", "a"), api.OpNe, l)),
		withAttr(api.Attr{Name: "a", Start: l, Fallback: zero}), withAttr(api.Attr{Name: "a", Start: zero, Fallback: l}),
		api.House{Scenes: []api.Scene{{Name: "s", Settings: []api.Setting{{Ref: ref("", "a"), Value: l}}}}}, withAction(api.ActionText{Kind: api.ActSet, Ref: ref("", "a"), Value: l}))
}

// housesWithRef returns houses with a reference at each place where one stands.
func housesWithRef(r api.Ref) []api.House {
	return append(housesWithAtom(atom(r, api.OpLt, called("b"))),
		api.House{Scenes: []api.Scene{{Name: "s", Settings: []api.Setting{{Ref: r, Value: called("b")}}}}}, withAction(api.ActionText{Kind: api.ActSet, Ref: r, Value: called("b")}))
}

// housesWithAtom returns houses with a comparison at each place where one stands.
func housesWithAtom(a api.AtomText) []api.House {
	other := atom(ref("", "a"), api.OpEq, called("b"))
	trigger, guard := plainRule(), plainRule()
	trigger.Timer, trigger.Trigger = "", a
	guard.Guard = []api.AtomText{other, a}
	return []api.House{withRule(trigger), withRule(guard), {Laws: []api.LawText{{Name: "l", Cond: []api.AtomText{a}}}}, {Laws: []api.LawText{{Name: "l", Cond: []api.AtomText{other, a}}}}}
}

// oddHouses returns houses that are not printable for another reason than a part of them.
func oddHouses() []api.House {
	zero := called("a")
	a := atom(ref("", "a"), api.OpEq, zero)
	one := tenths(1, "")
	list := []api.House{
		{Quiet: []api.Window{{From: -1, To: 5}}}, {Quiet: []api.Window{{From: 5, To: 1440}}}, {Quiet: []api.Window{{From: 1440, To: 5}}}, {Quiet: []api.Window{{From: 5, To: -1}}},
		{Scenes: []api.Scene{{Name: "s", Layer: -1}}}, {Scenes: []api.Scene{{Name: "s", Layer: 1000001}}}, {Laws: []api.LawText{{Name: "l"}}},
		withAttr(api.Attr{Name: "a", Values: []string{"b"}, Start: zero, Fallback: zero}),
		withAttr(api.Attr{Name: "a", Values: []string{"b", "c"}, Low: one, Start: zero, Fallback: zero}), withAttr(api.Attr{Name: "a", Values: []string{"b", "c"}, High: one, Start: zero, Fallback: zero}), withAttr(api.Attr{Name: "a", Values: []string{"b", "c"}, Step: tenths(0, "s"), Start: zero, Fallback: zero}),
		withAction(api.ActionText{}), withAction(api.ActionText{Kind: 5, Timer: "t"}), withAction(api.ActionText{Kind: api.ActScene}), withAction(api.ActionText{Kind: -1, Ref: a.Ref, Value: zero}),
	}
	for _, change := range []func(*api.RuleText){
		func(r *api.RuleText) { r.Priority = -1 }, func(r *api.RuleText) { r.Priority = 1000001 }, func(r *api.RuleText) { r.Trigger = a }, func(r *api.RuleText) { r.Timer = "" }, func(r *api.RuleText) { r.Actions = nil },
		func(r *api.RuleText) { r.Trigger.Op = 1 }, func(r *api.RuleText) { r.Trigger.Value.Quantity.Unit = "s" }, func(r *api.RuleText) { r.Trigger.Ref.Attr = "a" },
	} {
		r := plainRule()
		change(&r)
		list = append(list, withRule(r))
	}
	return append(list, actionsWithMore()...)
}

// actionsWithMore returns houses with actions that have a field that their kind does not need.
func actionsWithMore() []api.House {
	var list []api.House
	right := []api.ActionText{{Kind: api.ActSet, Ref: ref("", "a"), Value: called("b")}, {Kind: api.ActStart, Timer: "t", Duration: tenths(10, "s")}, {Kind: api.ActStop, Timer: "t"}, {Kind: api.ActScene, Scenes: []string{"s"}}}
	full := api.ActionText{Ref: ref("", "a"), Value: called("b"), Timer: "t", Duration: tenths(10, "s"), Scenes: []string{"s"}}
	for _, action := range right {
		for field := 1; field < reflect.TypeOf(full).NumField(); field++ {
			more := action
			if v := reflect.ValueOf(&more).Elem().Field(field); v.IsZero() {
				v.Set(reflect.ValueOf(full).Field(field))
				list = append(list, withAction(more))
			}
		}
	}
	return list
}

// P4.1: what is not printable has no text as a rule, either.
func TestRuleNotPrintable(t *testing.T) {
	for _, h := range oddHouses() {
		for _, r := range h.Rules {
			if got := printer.Rule(r); got != "" {
				t.Errorf("Rule(%+v) = %q, want none", r, got)
			}
		}
	}
	r := plainRule()
	r.Name = strings.Repeat("a", 17)
	if got := printer.Rule(r); got != "" {
		t.Errorf("Rule(%+v) = %q, want none", r, got)
	}
}
