package hub_test

import (
	"fmt"
	"math"
	"math/rand"
	"slices"
	"strings"
	"testing"

	"domicile/api"
	guests "domicile/capability"
	"domicile/explain"
	"domicile/hub"
)

func same(a, b any) bool { return fmt.Sprintf("%+v", a) == fmt.Sprintf("%+v", b) }

func load(text string) api.Request { return api.Request{Kind: api.ReqLoad, Text: text} }

func set(v, value int) api.Request {
	return api.Request{Kind: api.ReqInput, Input: api.Input{Kind: api.InSet, Var: v, Value: value}}
}

func wait(seconds int) api.Request {
	return api.Request{Kind: api.ReqInput, Input: api.Input{Kind: api.InWait, Seconds: seconds}}
}

func number(kind, n int) api.Request { return api.Request{Kind: kind, N: n} }

func edit(name, text string) api.Request {
	return api.Request{Kind: api.ReqEdit, Edit: api.Edit{Rule: name, Text: text}}
}

// want does a request and checks its error.
func want(t *testing.T, h *hub.Hub, r api.Request, err api.Errno) api.Answer {
	t.Helper()
	a := h.Do(r)
	if a.Err != err || err != api.OK && !same(a, api.Answer{Err: err}) {
		t.Fatalf("Do(%+v) = %+v, want %d", r, a, err)
	}
	return a
}

func statusOf(h *hub.Hub) api.Status { return h.Do(api.Request{Kind: api.ReqStatus}).Status }

const (
	motion = 2 // the variables of the house
	attic  = 3
	lamp   = 4
)

// P43.1: the examples of the chapter.
func TestExamples(t *testing.T) {
	h := hub.New(0, 9, 1024)
	want(t, h, set(motion, 1), api.ErrIdle)
	want(t, h, load("room hall; device m: motion in hall;"), api.ErrName)
	if a := want(t, h, load(lampHouse+lampRules), api.OK); len(a.Findings) > 0 || !statusOf(h).Safe {
		t.Errorf("findings %v", a.Findings)
	}
	if a := want(t, h, set(motion, 1), api.OK); !same(a, api.Answer{Commands: []api.Command{{Rule: 0, Var: lamp, Value: 1}}}) {
		t.Errorf("set: %+v", a)
	}
	if a := want(t, h, wait(5), api.OK); !same(a, api.Answer{Commands: []api.Command{{Rule: 1, Var: lamp, Value: 0}}}) {
		t.Errorf("wait: %+v", a)
	}
	a := want(t, h, number(api.ReqExplain, 0), api.OK)
	if len(a.Why) != 1 || a.Why[0].Rule != 0 || !slices.Equal(explain.Leaves(a.Why[0]), []int{0}) {
		t.Errorf("explain: %+v", a)
	}
	if a := want(t, h, number(api.ReqExplain, 1), api.OK); len(a.Why) > 0 {
		t.Errorf("explain: %+v", a)
	}
	if a := want(t, h, number(api.ReqExplain, 2), api.OK); len(a.Why) != 1 || !slices.Equal(explain.Leaves(a.Why[0]), []int{0, 2}) {
		t.Errorf("explain: %+v", a)
	}
	want(t, h, number(api.ReqSync, 0), api.OK)
	want(t, h, number(api.ReqCrash, 0), api.OK)
	if s := statusOf(h); !same(s, api.Status{Running: true, Safe: true, Steps: 2, Values: []int{0, 0, 1, 0, 1}}) {
		t.Errorf("status %+v", s)
	}
	if l := h.Journal(); len(l) != 2 || l[0].Kind != api.EntLoad || !same(l[1], api.Entry{Seq: 1, Kind: api.EntInput, Nums: []int{motion, 1}}) {
		t.Errorf("journal %v", l)
	}
	lost := hub.New(0, 9, 1024)
	want(t, lost, load(lampHouse+lampRules), api.OK)
	want(t, lost, number(api.ReqCrash, 0), api.OK)
	if s := statusOf(lost); !same(s, api.Status{}) || len(lost.Journal()) > 0 {
		t.Errorf("status %+v", s)
	}
}

// P43.1, AQ1: hubs that are not made rightly.
func TestNew(t *testing.T) {
	for i, test := range []struct {
		number, key, size int
		ok                bool
	}{
		{0, 0, 16, true}, {2, 2147483646, 4096, true}, {-1, 5, 64, false}, {3, 5, 64, false}, {1, -1, 64, false}, {1, 2147483647, 64, false}, {1, 5, 15, false}, {1, 5, 4097, false}, {math.MinInt, math.MaxInt, math.MaxInt, false},
	} {
		h := hub.New(test.number, test.key, test.size)
		for kind := range 16 {
			if a := h.Do(number(kind, 1)); !test.ok && !same(a, api.Answer{Err: api.ErrArg}) {
				t.Errorf("%d: Do(%d) = %+v", i, kind, a)
			}
		}
		if err := h.Merge(nil); (err == api.OK) != test.ok || !test.ok && (err != api.ErrArg || len(h.Journal()) > 0) {
			t.Errorf("%d: Merge = %d", i, err)
		}
	}
	for _, h := range []*hub.Hub{nil, new(hub.Hub)} {
		if a := h.Do(number(api.ReqStatus, 0)); a.Err != api.ErrArg || h.Merge(nil) != api.ErrArg || len(h.Journal()) > 0 {
			t.Errorf("a hub that was not made: %+v", a)
		}
	}
}

// P43.1, P43.4: the errors of requests, and their order; nothing changes.
func TestErrors(t *testing.T) {
	h := hub.New(1, 9, 4096)
	for _, r := range []api.Request{set(motion, 1), wait(5), {Kind: api.ReqInput}, {Kind: api.ReqGuest}, number(api.ReqQuarantine, -1), edit("", ""), number(api.ReqExplain, 0), number(api.ReqAnalyse, 0)} {
		want(t, h, r, api.ErrIdle)
	}
	for text, err := range map[string]api.Errno{"room": api.ErrEnd, "$": api.ErrChar, "room room;": api.ErrSyntax, strings.Repeat(" ", 20001): api.ErrLimit, "room a; room a;": api.ErrTwice} {
		want(t, h, load(text), err)
	}
	want(t, h, load(lampHouse+lampRules), api.OK)
	before := fmt.Sprint(statusOf(h), h.Journal())
	guest := guests.Mint(9, 4)
	ask := func(room, v, value int) api.Request {
		return api.Request{Kind: api.ReqGuest, Cap: guest, Ask: api.Ask{Room: room, Var: v, Value: value}}
	}
	forged := ask(0, motion, 1)
	forged.Cap.Id++
	for i, test := range []struct {
		r   api.Request
		err api.Errno
	}{
		{load(""), api.ErrState}, {load("$"), api.ErrState}, {set(lamp, 1), api.ErrState}, {set(motion, 0), api.ErrState}, {set(motion, 2), api.ErrState}, {set(-1, 0), api.ErrState}, {set(99, 0), api.ErrState},
		{wait(0), api.ErrArg}, {wait(-5), api.ErrArg}, {wait(86401), api.ErrArg}, {api.Request{Kind: api.ReqInput, Input: api.Input{Kind: api.InExpire}}, api.ErrArg}, {api.Request{Kind: api.ReqInput}, api.ErrArg},
		{ask(0, -1, 1), api.ErrName}, {ask(0, 99, 1), api.ErrName}, {ask(0, 0, 0), api.ErrName}, {ask(0, lamp, 1), api.ErrName}, {ask(1, motion, 1), api.ErrRight}, {ask(-1, motion, 1), api.ErrRight}, {ask(2, motion, 1), api.ErrRight}, {ask(0, motion, 16), api.ErrArg}, {forged, api.ErrTag}, {ask(0, motion, 0), api.ErrState}, {ask(0, motion, 2), api.ErrState},
		{number(api.ReqRevoke, -1), api.ErrArg}, {number(api.ReqRevoke, 2147483647), api.ErrArg}, {number(api.ReqQuarantine, -1), api.ErrArg}, {number(api.ReqQuarantine, 3), api.ErrArg},
		{edit("", ""), api.ErrArg}, {edit("rule", ""), api.ErrArg}, {edit("a b", "$"), api.ErrArg}, {edit("on\n", ""), api.ErrArg}, {edit("on", strings.Repeat(" ", 19998)), api.ErrLimit}, {edit("on", strings.Repeat(" ", 19997)), api.ErrSyntax}, {edit("none", ""), api.ErrNone}, {edit("on", "rule on"), api.ErrEnd}, {edit("on", "room x;"), api.ErrSyntax},
		{edit("on", "rule of priority 1 when timer t do stop t;"), api.ErrSyntax}, {edit("on", "rule on priority 1 when timer t do stop t; room z;"), api.ErrSyntax}, {edit("on", "rule on priority 101 when timer t do stop t;"), api.ErrRange}, {edit("on", "rule on priority 1 when timer z do stop t;"), api.ErrName},
		{number(api.ReqExplain, 0), api.ErrNone}, {number(api.ReqExplain, -1), api.ErrNone}, {number(api.ReqCrash, -1), api.ErrArg}, {number(api.ReqTake, 0), api.ErrFence}, {number(api.ReqTake, -9), api.ErrFence}, {number(api.ReqTake, 1000000001), api.ErrArg},
		{number(api.ReqMint, -1), api.ErrArg}, {number(api.ReqMint, 1000001), api.ErrArg}, {api.Request{Kind: api.ReqNarrow, Cap: guest}, api.ErrArg}, {number(0, 0), api.ErrArg}, {number(15, 0), api.ErrArg}, {number(-1, 0), api.ErrArg},
	} {
		if a := h.Do(test.r); !same(a, api.Answer{Err: test.err}) {
			t.Errorf("%d: Do(%+v) = %+v, want %d", i, test.r, a, test.err)
		}
	}
	if after := fmt.Sprint(statusOf(h), h.Journal()); after != before {
		t.Errorf("%s, before %s", after, before)
	}
}

// P43.1: quarantine, edits, and what they keep.
func TestHouseChanges(t *testing.T) {
	h := hub.New(1, 9, 4096)
	want(t, h, load(lampHouse+lampRules), api.OK)
	want(t, h, set(motion, 1), api.OK)
	want(t, h, wait(2), api.OK)
	// A new house keeps the values, and runs no timers.
	a := want(t, h, edit("dark", "rule dark priority 1 when n.state is on do l.power = off, start t 3 s;"), api.OK)
	if s := statusOf(h); len(a.Findings) > 0 || !same(s, api.Status{Running: true, Safe: true, Values: []int{0, 0, 1, 0, 1}}) {
		t.Errorf("%+v, status %+v", a, s)
	}
	if a := want(t, h, wait(9), api.OK); len(a.Commands) > 0 {
		t.Errorf("%+v", a)
	}
	if a := want(t, h, set(attic, 1), api.OK); !same(a.Commands, []api.Command{{Rule: 2, Var: lamp, Value: 0}}) {
		t.Errorf("%+v", a)
	}
	// The motion sensor in the hall is on, and starts with its fallback value in quarantine.
	want(t, h, number(api.ReqQuarantine, 0), api.OK)
	if s := statusOf(h); !same(s, api.Status{Running: true, Safe: true, Values: []int{0, 0, 0, 1, 0}, Quarantined: []int{0}}) {
		t.Errorf("status %+v", s)
	}
	want(t, h, number(api.ReqQuarantine, 0), api.ErrTwice)
	want(t, h, set(motion, 1), api.ErrState)
	want(t, h, api.Request{Kind: api.ReqGuest, Cap: guests.Mint(9, 1), Ask: api.Ask{Var: motion, Value: 1}}, api.ErrName)
	// An edit that names it is possible; its rule is not there as long as it is in quarantine.
	want(t, h, edit("on", "rule on priority 3 when m.state is on do l.power = on;"), api.OK)
	want(t, h, edit("dark", "rule dark priority 3 when n.state is off if m.state is off do l.power = on;"), api.OK)
	if a := want(t, h, set(attic, 0), api.OK); !same(a.Commands, []api.Command{{Rule: 1, Var: lamp, Value: 1}}) {
		t.Errorf("%+v", a)
	}
	want(t, h, edit("dark", ""), api.OK)
	want(t, h, edit("dark", ""), api.ErrNone)
	if s := statusOf(h); !slices.Equal(s.Values, []int{0, 0, 0, 0, 1}) || s.Steps != 0 {
		t.Errorf("status %+v", s)
	}
	// A law about the lamp alone does not permit to remove it.
	strict := hub.New(1, 9, 4096)
	want(t, strict, load(lampHouse+"law dark never l.power is off for 9 s;"), api.OK)
	want(t, strict, number(api.ReqQuarantine, 2), api.ErrConflict)
	if a := want(t, strict, number(api.ReqAnalyse, 0), api.OK); statusOf(strict).Safe || len(a.Findings) != 1 || a.Findings[0].Kind != api.FindLaw {
		t.Errorf("%+v", a)
	}
	// Findings are about the start values: from now on the law holds.
	broken := hub.New(1, 9, 4096)
	want(t, broken, load(clashing), api.OK)
	if a := want(t, broken, edit("dark", ""), api.OK); statusOf(broken).Safe || len(a.Findings) != 1 || a.Findings[0].Kind != api.FindLaw {
		t.Errorf("%+v", a)
	}
	want(t, broken, edit("on", "rule on priority 1 when m.state is on if l.power is off do l.power = on, start t 2 s;"), api.OK)
	if s := statusOf(broken); !s.Safe {
		t.Errorf("status %+v", s)
	}
}

// P43.1: the limits of inputs, entries and time.
func TestLimits(t *testing.T) {
	h := hub.New(0, 9, 4096)
	want(t, h, load(lampHouse), api.OK)
	for i := range 399 {
		want(t, h, set(attic, 1-i%2), api.OK)
	}
	want(t, h, number(api.ReqTake, 5), api.ErrFull)
	want(t, h, set(lamp, 7), api.ErrFull)
	want(t, h, load("$"), api.ErrFull)
	want(t, h, wait(7), api.OK)
	want(t, h, wait(7), api.ErrFull)
	if s := statusOf(h); s.Steps != 400 {
		t.Errorf("status %+v", s)
	}
	// The memory has no room for all of them, but for many; after the loss of power the hub waits for a second.
	want(t, h, number(api.ReqSync, 0), api.ErrFull)
	if l := h.Journal(); len(l) > 0 {
		t.Errorf("journal of %d entries", len(l))
	}
	want(t, h, number(api.ReqCrash, 1<<40), api.OK)
	if s, n := statusOf(h), len(h.Journal()); n < 200 || n > 399 || s.Steps != n {
		t.Errorf("status %+v with %d entries", s, n)
	}
	want(t, h, number(api.ReqSync, 0), api.OK)
	// The house has as many inputs as it can have, but time goes on.
	late := hub.New(0, 9, 4096)
	want(t, late, load(lampHouse+lampRules), api.OK)
	for range 400 {
		want(t, late, wait(1), api.OK)
	}
	want(t, late, set(motion, 1), api.ErrFull)
	want(t, late, api.Request{Kind: api.ReqGuest, Cap: guests.Mint(9, 1), Ask: api.Ask{Var: motion, Value: 1}}, api.ErrFull)
	want(t, late, wait(1), api.ErrFull)
	want(t, late, edit("on", ""), api.OK)
	if a := want(t, late, wait(1), api.OK); len(a.Commands) > 0 {
		t.Errorf("%+v", a)
	}
	want(t, late, number(api.ReqSync, 0), api.OK)
	if l := late.Journal(); len(l) != 2 || l[1].Time != 400 || l[1].Text != "on\n" {
		t.Errorf("journal %v", l)
	}
	// At the end of time there are no entries any more.
	end := hub.New(0, 9, 4096)
	last := api.Entry{Hub: 1, Time: 1000000000, Kind: api.EntTake, Nums: []int{3}}
	if err := end.Merge([]api.Entry{{Hub: 1, Seq: 7, Time: 999999998, Kind: api.EntLoad, Text: lampHouse}, last}); err != api.OK {
		t.Fatalf("Merge = %d", err)
	}
	want(t, end, number(api.ReqTake, 0), api.ErrTime)
	want(t, end, set(0, 0), api.ErrTime)
	want(t, end, wait(1), api.ErrTime)
	want(t, end, wait(0), api.ErrArg)
	if s := statusOf(end); s.Steps != 2 || s.Fence != 3 {
		t.Errorf("status %+v", s)
	}
	near := hub.New(0, 9, 4096)
	if err := near.Merge([]api.Entry{{Hub: 1, Time: 999999990, Kind: api.EntLoad, Text: lampHouse}}); err != api.OK {
		t.Fatalf("Merge = %d", err)
	}
	want(t, near, wait(10), api.ErrTime)
	want(t, near, wait(9), api.OK)
	want(t, near, set(motion, 1), api.OK)
	want(t, near, wait(1), api.ErrTime)
}

// P43.1: waiting is done in parts; timers expire in between, in their order.
func TestWaiting(t *testing.T) {
	h := hub.New(0, 9, 4096)
	want(t, h, load(lampHouse+`rule a priority 1 when m.state is on do start t 5 s, start u 5 s;
rule b priority 1 when timer t do l.power = on, start t 3 s;
rule c priority 1 when timer u do l.power = off;`), api.OK)
	want(t, h, set(motion, 1), api.OK)
	a := want(t, h, wait(12), api.OK)
	if !same(a.Commands, []api.Command{{Rule: 1, Var: lamp, Value: 1}, {Rule: 2, Var: lamp, Value: 0}, {Rule: 1, Var: lamp, Value: 1}, {Rule: 1, Var: lamp, Value: 1}}) {
		t.Errorf("%+v", a)
	}
	// The inputs: set, wait 5, t, u, wait 3, t, wait 3, t, wait 1.
	if s := statusOf(h); s.Steps != 9 {
		t.Errorf("status %+v", s)
	}
	// Time that passes in replay is waited for in days.
	other := hub.New(1, 9, 4096)
	l := []api.Entry{{Kind: api.EntLoad, Text: lampHouse}, {Seq: 1, Time: 200000, Kind: api.EntInput, Nums: []int{motion, 1}}, {Seq: 2, Time: 40000000, Kind: api.EntInput, Nums: []int{motion, 0}}}
	if err := other.Merge(l); err != api.OK {
		t.Fatalf("Merge = %d", err)
	}
	// The house stops before the last entry, which is not permitted any more.
	if s := statusOf(other); s.Steps != 400 || s.Values[motion] != 1 {
		t.Errorf("status %+v", s)
	}
	if err := other.Merge(l[:1]); err != api.OK {
		t.Fatalf("Merge = %d", err)
	}
	want(t, other, wait(1), api.ErrFull)
}

// P43.1: entries that are not permitted have no effect in the replay.
func TestStrangeEntries(t *testing.T) {
	good := []api.Entry{{Kind: api.EntLoad, Text: lampHouse + lampRules}, {Seq: 1, Kind: api.EntInput, Nums: []int{motion, 1}}}
	for i, e := range []api.Entry{
		{Kind: api.EntLoad, Text: lampHouse}, {Kind: api.EntLoad, Nums: []int{1}}, {Kind: api.EntInput, Nums: []int{attic}}, {Kind: api.EntInput, Nums: []int{attic, 1, 0}}, {Kind: api.EntInput, Nums: []int{attic, 1}, Text: "x"}, {Kind: api.EntInput, Nums: []int{lamp, 0}}, {Kind: api.EntGuest, Nums: []int{attic, 1}}, {Kind: api.EntGuest, Nums: []int{1, attic, 1}, Text: "x"},
		{Kind: api.EntRevoke}, {Kind: api.EntRevoke, Nums: []int{-1}}, {Kind: api.EntRevoke, Nums: []int{1}, Text: " "}, {Kind: api.EntQuarantine}, {Kind: api.EntQuarantine, Nums: []int{9}}, {Kind: api.EntQuarantine, Nums: []int{1}, Text: "x"}, {Kind: api.EntQuarantine, Nums: []int{1, 1}},
		{Kind: api.EntEdit}, {Kind: api.EntEdit, Text: "on"}, {Kind: api.EntEdit, Text: "none\n"}, {Kind: api.EntEdit, Text: "on\n", Nums: []int{1}}, {Kind: api.EntEdit, Text: "on\n$"}, {Kind: api.EntEdit, Text: "\nroom x;"}, {Kind: api.EntTake}, {Kind: api.EntTake, Nums: []int{0}}, {Kind: api.EntTake, Nums: []int{1000000001}}, {Kind: api.EntTake, Nums: []int{5, 6}}, {Kind: api.EntTake, Nums: []int{5}, Text: "x"},
	} {
		h, plain := hub.New(2, 9, 4096), hub.New(2, 9, 4096)
		e.Seq, e.Time = 2, 3
		if err := h.Merge(append(slices.Clone(good), e)); err != api.OK {
			t.Fatalf("%d: Merge = %d", i, err)
		}
		nothing := api.Entry{Seq: 2, Time: 3, Kind: api.EntTake}
		if err := plain.Merge(append(slices.Clone(good), nothing)); err != api.OK {
			t.Fatalf("%d: Merge = %d", i, err)
		}
		if a, b := statusOf(h), statusOf(plain); !same(a, b) {
			t.Errorf("%d: %+v leads to %+v, want %+v", i, e, a, b)
		}
	}
}

// P43.1, AQ4: the errors of Merge, with which nothing changes.
func TestMergeErrors(t *testing.T) {
	h := hub.New(0, 9, 4096)
	want(t, h, load(lampHouse+lampRules), api.OK)
	want(t, h, set(motion, 1), api.OK)
	want(t, h, edit("on", "rule on priority 5 when m.state is on do l.power = on;"), api.OK)
	want(t, h, number(api.ReqSync, 0), api.OK)
	l := h.Journal()
	before := fmt.Sprint(statusOf(h), h.Journal())
	changed := slices.Clone(l)
	changed[1].Nums = []int{motion, 0}
	other := func(text string) []api.Entry {
		return append(slices.Clone(l[:2]), api.Entry{Hub: 1, Time: 3, Kind: api.EntEdit, Text: text})
	}
	many := make([]api.Entry, 400)
	for i := range many {
		many[i] = api.Entry{Hub: 2, Seq: i, Time: 9, Kind: api.EntTake, Nums: []int{i}}
	}
	for i, test := range []struct {
		l   []api.Entry
		err api.Errno
	}{
		{[]api.Entry{{Hub: 1, Kind: api.EntTake, Nums: []int{2147483648}}}, api.ErrArg}, {[]api.Entry{{Hub: 1, Kind: api.EntTake, Nums: []int{0, -2147483649}}}, api.ErrArg}, {[]api.Entry{{Hub: 3, Kind: api.EntTake}}, api.ErrArg}, {[]api.Entry{{Hub: 1}}, api.ErrArg}, {[]api.Entry{l[1], l[0]}, api.ErrArg},
		{changed, api.ErrConflict}, {many, api.ErrLimit}, {other("on\nrule on priority 6 when m.state is on do l.power = on;"), api.ErrConflict}, {other("on\n"), api.ErrConflict}, {many[:397], api.OK},
	} {
		if test.err == api.OK {
			before = ""
		}
		if err := h.Merge(test.l); err != test.err {
			t.Errorf("%d: Merge = %d, want %d", i, err, test.err)
		}
		if after := fmt.Sprint(statusOf(h), h.Journal()); before != "" && after != before {
			t.Errorf("%d: %s, before %s", i, after, before)
		}
	}
	want(t, h, number(api.ReqTake, 9999), api.ErrFull)
	// Edits of different rules, and equal ones, are merged.
	for _, text := range []string{"off\n", "new\nrule new priority 1 when n.state is on do l.power = on;", "on\nrule on priority 5 when   m.state is on do l.power = on;"} {
		g := hub.New(0, 9, 4096)
		if err := g.Merge(l); err != api.OK {
			t.Fatalf("Merge = %d", err)
		}
		if err := g.Merge(other(text)); err != api.OK {
			t.Errorf("Merge of %q = %d", text, err)
		}
	}
	// Numbers of 32 bits are permitted.
	if err := hub.New(0, 9, 64).Merge([]api.Entry{{Kind: api.EntTake, Nums: []int{-2147483648, 2147483647}}}); err != api.OK {
		t.Errorf("Merge = %d", err)
	}
}

// compare checks that a hub and the reference are the same.
func compare(t *testing.T, what any, h *hub.Hub, ref *refHub) {
	t.Helper()
	if a, b := statusOf(h), ref.status(); !same(a, b) {
		t.Fatalf("after %+v: status %+v, want %+v", what, a, b)
	}
	if a, b := h.Journal(), ref.journal(); !same(a, b) {
		t.Fatalf("after %+v: journal %+v, want %+v", what, a, b)
	}
}

// P43.1: random sessions of three hubs, against the definitions.
func TestRandom(t *testing.T) {
	m := maker{rand.New(rand.NewSource(1))}
	count := map[string]int{}
	for range 150 {
		size := []int{4096, 1024, 700}[m.Intn(3)]
		var hubs [3]*hub.Hub
		var refs [3]*refHub
		for i := range hubs {
			hubs[i], refs[i] = hub.New(i, 9, size), newRef(i, 9, size)
		}
		if m.chance(2) {
			for i := range hubs {
				hubs[i].Do(load(lampHouse + lampRules))
				refs[i].do(load(lampHouse + lampRules))
			}
		}
		if m.chance(8) {
			for i := range hubs {
				l := []api.Entry{{Hub: i, Seq: 1000000000 - m.Intn(6), Kind: api.EntTake, Nums: []int{0}}}
				if got, err := hubs[i].Merge(l), refs[i].merge(l); got != err {
					t.Fatalf("Merge(%v) = %d, want %d", l, got, err)
				}
			}
		}
		for range 80 {
			i, k := m.Intn(3), m.Intn(3)
			if m.chance(10) {
				l := hubs[k].Journal()
				got, err := hubs[i].Merge(l), refs[i].merge(l)
				if got != err {
					t.Fatalf("Merge(%v) = %d, want %d", l, got, err)
				}
				count[fmt.Sprint("Merge", got)]++
				compare(t, l, hubs[i], refs[i])
				continue
			}
			r := m.request(m.guest(9))
			got, answer := hubs[i].Do(r), refs[i].do(r)
			if !same(got, answer) {
				t.Fatalf("Do(%+v) = %+v, want %+v", r, got, answer)
			}
			count[fmt.Sprint(r.Kind, " ", got.Err)]++
			compare(t, r, hubs[i], refs[i])
		}
	}
	for _, name := range []string{
		"1 0", "1 28", "2 0", "2 1", "2 28", "2 29", "3 0", "3 15", "3 18", "3 28", "5 0", "6 0", "7 0", "8 0", "9 0", "10 0", "11 0", "12 0", "13 0", "14 0", "Merge0", "Merge1", "Merge25",
	} {
		if count[name] < 10 {
			t.Errorf("the test covers too little: %s in %v", name, count)
		}
	}
}
