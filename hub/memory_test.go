package hub_test

import (
	"slices"
	"strings"
	"testing"

	"domicile/api"
	guests "domicile/capability"
	"domicile/hub"
)

// P43.1: entries of all lengths, and with all numbers, are written and read again.
func TestBytes(t *testing.T) {
	nums := []int{0, -1, 1, 63, 64, -64, -65, 8191, 8192, -8192, -8193, 2147483647, -2147483648, 1000000000}
	for length := range 450 {
		if length > 20 && length%199 > 10 && length%199 < 170 {
			continue
		}
		h := hub.New(0, 9, 4096)
		l := []api.Entry{
			{Hub: 1, Seq: 1000000, Time: 70, Kind: api.EntEdit, Text: strings.Repeat("\xff", length)},
			{Hub: 2, Time: 71, Kind: api.EntTake, Nums: nums[length%len(nums):]},
			{Hub: 2, Seq: 1, Time: 1000000000, Kind: api.EntEdit, Nums: slices.Repeat(nums, 3)[:32], Text: "x"},
		}
		if err := h.Merge(l); err != api.OK {
			t.Fatalf("Merge(%v) = %d", l, err)
		}
		want(t, h, number(api.ReqSync, 0), api.OK)
		want(t, h, number(api.ReqCrash, 0), api.OK)
		if got := h.Journal(); !same(got, l) {
			t.Fatalf("%v was written, and %v read", l, got)
		}
	}
}

// P43.3, AQ2: entries with a Seq that is too great for a journal are written and read as all others, whenever power is lost.
func TestGreatSeq(t *testing.T) {
	long := edit("long", "rule long priority 1 when n.state is on do l.power = on;"+strings.Repeat(" ", 300))
	requests := []api.Request{load(lampHouse + lampRules), number(api.ReqTake, 3), set(motion, 1), long, number(api.ReqTake, 4)}
	read := 0
	for i := range 4 {
		build := func() (*hub.Hub, *refHub) {
			h, ref := hub.New(i%3, 9, 2048), newRef(i%3, 9, 2048)
			l := []api.Entry{{Hub: i % 3, Seq: 1000000000 - i, Kind: api.EntTake, Nums: []int{1}}}
			if err := h.Merge(l); err != api.OK || ref.merge(l) != api.OK {
				t.Fatalf("Merge(%v) = %d", l, err)
			}
			for _, r := range requests {
				if got, answer := h.Do(r), ref.do(r); got.Err != api.OK || !same(got, answer) {
					t.Fatalf("Do(%+v) = %+v, want %+v", r, got, answer)
				}
			}
			return h, ref
		}
		_, whole := build()
		_, _, steps := whole.write(1 << 40)
		for n := 0; n <= steps; n += 1 + (steps-n)/15 {
			h, ref := build()
			// What is made and written after the loss of power is read again as well.
			for _, r := range []api.Request{{Kind: api.ReqCrash, N: n}, {Kind: api.ReqTake, N: 9}, {Kind: api.ReqSync}, {Kind: api.ReqCrash}} {
				if got, answer := h.Do(r), ref.do(r); got.Err != api.OK || !same(got, answer) {
					t.Fatalf("Do(%+v) = %+v, want %+v", r, got, answer)
				}
				compare(t, r, h, ref)
			}
			if l := h.Journal(); l[len(l)-1].Seq > 1000000000 {
				read++
			}
			if got, err := h.Merge(nil), ref.merge(nil); got != err {
				t.Fatalf("Merge = %d, want %d", got, err)
			}
			compare(t, n, h, ref)
		}
	}
	if read < 150 {
		t.Errorf("only %d times a Seq that is too great for a journal", read)
	}
}

// P43.3, AQ2: the greatest Seqs that fit into a memory.
func TestManyGreatSeqs(t *testing.T) {
	h := hub.New(0, 9, 4096)
	if err := h.Merge([]api.Entry{{Seq: 1000000000, Kind: api.EntTake, Nums: []int{1}}}); err != api.OK {
		t.Fatalf("Merge = %d", err)
	}
	for n := range 200 {
		want(t, h, number(api.ReqTake, n+2), api.OK)
	}
	want(t, h, number(api.ReqSync, 0), api.OK)
	want(t, h, number(api.ReqCrash, 0), api.OK)
	l := h.Journal()
	if len(l) != 201 || statusOf(h).Fence != 201 {
		t.Fatalf("%d entries, status %+v", len(l), statusOf(h))
	}
	for i, e := range l {
		if e.Seq != 1000000000+i || !slices.Equal(e.Nums, []int{i + 1}) {
			t.Errorf("the entry %d is %+v", i, e)
		}
	}
	// They are no journal, so that nothing can be merged with them.
	if err := h.Merge(l[:1]); err != api.ErrArg {
		t.Errorf("Merge = %d", err)
	}
	if err := hub.New(1, 9, 64).Merge(l); err != api.ErrArg {
		t.Errorf("Merge = %d", err)
	}
}

// P43.1: how many steps are needed for an entry depends on what was written before, also if that is a single byte.
func TestSteps(t *testing.T) {
	for n := range 45 {
		for k := range 60 {
			h, ref := hub.New(1, 9, 64), newRef(1, 9, 64)
			for _, r := range []api.Request{number(api.ReqTake, 3), number(api.ReqTake, 4), number(api.ReqCrash, n), number(api.ReqTake, 9), number(api.ReqTake, 12), number(api.ReqCrash, k), number(api.ReqTake, 20), number(api.ReqSync, 0)} {
				if got, answer := h.Do(r), ref.do(r); !same(got, answer) {
					t.Fatalf("%d, %d: Do(%+v) = %+v, want %+v", n, k, r, got, answer)
				}
				compare(t, []any{n, k, r}, h, ref)
			}
		}
	}
}

// P43.1: an edit is exactly one rule, without any other item.
func TestItems(t *testing.T) {
	rule := "rule on priority 1 when timer t do stop t; "
	for _, item := range []string{"room r;", "kind k { }", "device d: lamp in hall;", "person p;", "mode m;", "timer v;", "quiet 1:00 to 2:00;", "scene s layer 1 { }", "law l never l.power is on for 1 s;", rule, "kind k { } device d: k in hall;", "mode m; person p;"} {
		h := hub.New(0, 9, 4096)
		want(t, h, load(lampHouse+lampRules), api.OK)
		want(t, h, edit("on", item+rule), api.ErrSyntax)
		want(t, h, edit("on", rule+item), api.ErrSyntax)
		want(t, h, edit("on", rule), api.OK)
	}
}

// P43.1: a guest can ask for the last variable of a house.
func TestLastVariable(t *testing.T) {
	h := hub.New(0, 9, 4096)
	want(t, h, load("room r; kind k { state: off or on sensor start off; } device d: k in r;"), api.OK)
	ask := api.Request{Kind: api.ReqGuest, Cap: guests.Mint(9, 1), Ask: api.Ask{Var: 2, Value: 1}}
	want(t, h, ask, api.OK)
	ask.Ask.Var = 3
	want(t, h, ask, api.ErrName)
	if s := statusOf(h); !slices.Equal(s.Values, []int{0, 0, 1}) {
		t.Errorf("status %+v", s)
	}
}
