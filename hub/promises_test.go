package hub_test

import (
	"fmt"
	"math/rand"
	"slices"
	"testing"

	"domicile/api"
	"domicile/explain"
	"domicile/hub"
	"domicile/rules"
)

// session makes a hub do random requests; each is called with it before and after.
func session(m maker, h *hub.Hub, n int, each func(r api.Request, a api.Answer)) {
	h.Do(load(lampHouse + lampRules))
	for range n {
		r := m.request(m.guest(9))
		if each != nil {
			each(r, api.Answer{Err: -1})
		}
		a := h.Do(r)
		if each != nil {
			each(r, a)
		}
	}
}

// P43.2: an idle hub that merges the journal of another one comes to the same.
func TestReplay(t *testing.T) {
	m := maker{rand.New(rand.NewSource(432))}
	compared, devices := 0, 0
	for range 300 {
		h, other := hub.New(0, 9, 4096), hub.New(2, 5, 64)
		time := 0
		session(m, h, 25, func(r api.Request, a api.Answer) {
			if r.Kind == api.ReqInput && r.Input.Kind == api.InWait && a.Err == api.OK {
				time += r.Input.Seconds
			}
			if r.Kind == api.ReqCrash && a.Err == api.OK {
				time = -1 << 40
			}
		})
		if a := h.Do(number(api.ReqSync, 0)); a.Err != api.OK || time < 0 || !statusOf(h).Running {
			continue
		}
		l := h.Journal()
		if err := other.Merge(l); err != api.OK {
			t.Fatalf("Merge(%v) = %d", l, err)
		}
		// The other hub is at the time after the last entry now.
		now := l[len(l)-1].Time + 1
		for ; time < now; time++ {
			h.Do(wait(1))
		}
		for ; now < time; now += min(time-now, 86400) {
			other.Do(wait(min(time-now, 86400)))
		}
		a, b := statusOf(h), statusOf(other)
		a.Steps, b.Steps = 0, 0
		if !same(a, b) {
			t.Fatalf("%v: %+v, but replayed %+v", l, a, b)
		}
		compared++
		devices += len(a.Quarantined)
	}
	if compared < 150 || devices < 30 {
		t.Errorf("the test covers too little: %d, %d", compared, devices)
	}
}

// P43.3: after power is lost at any step, a hub has what was synced, and the first of the other entries.
func TestPower(t *testing.T) {
	m := maker{rand.New(rand.NewSource(433))}
	partly := 0
	for range 40 {
		seed := m.Int63()
		build := func() (*hub.Hub, []api.Entry, []api.Entry) {
			k := maker{rand.New(rand.NewSource(seed))}
			h := hub.New(1, 9, 2048)
			session(k, h, 6, nil)
			h.Do(number(api.ReqSync, 0))
			synced := h.Journal()
			for i := range 5 {
				h.Do(set(motion, i%2))
				h.Do(edit("long", fmt.Sprintf("rule long priority %d when m.state is on if m.state is on and n.state is on and m.state is on and n.state is on and m.state is on and n.state is on do l.power = on, start t %d s;", i, i+1)))
			}
			all := hub.New(1, 9, 2048)
			*all = *h
			all.Do(number(api.ReqSync, 0))
			return h, synced, all.Journal()
		}
		for range 12 {
			h, synced, all := build()
			if len(all) == 0 {
				continue
			}
			want(t, h, number(api.ReqCrash, m.Intn(900)), api.OK)
			l := h.Journal()
			if len(l) < len(synced) || len(l) > len(all) || !same(l, all[:len(l)]) {
				t.Fatalf("%d entries were synced, of %v there are %v", len(synced), all, l)
			}
			if len(l) > len(synced) && len(l) < len(all) {
				partly++
			}
			// What is written afterwards is read again, also behind the part of an entry.
			if a := h.Do(number(api.ReqTake, 1000)); a.Err == api.OK {
				want(t, h, number(api.ReqSync, 0), api.OK)
				want(t, h, number(api.ReqCrash, 0), api.OK)
				if got := h.Journal(); len(got) != len(l)+1 || !same(got[:len(l)], l) || got[len(l)].Kind != api.EntTake {
					t.Fatalf("%v, and then %v", l, got)
				}
			}
		}
	}
	if partly < 50 {
		t.Errorf("only %d times a part of the entries", partly)
	}
}

// P43.4: a request with an error changes neither status nor journal.
func TestRefused(t *testing.T) {
	m := maker{rand.New(rand.NewSource(434))}
	refused := 0
	for range 60 {
		h := hub.New(0, 9, 600)
		before := ""
		session(m, h, 60, func(r api.Request, a api.Answer) {
			now := fmt.Sprint(statusOf(h), h.Journal())
			if a.Err != -1 && a.Err != api.OK {
				if refused++; now != before {
					t.Fatalf("Do(%+v) = %+v: %s, before %s", r, a, now, before)
				}
			}
			before = now
		})
	}
	if refused < 1000 {
		t.Errorf("only %d requests were refused", refused)
	}
}

// P43.5: capabilities of guests that are narrowed, used up, over, revoked, and lost power.
func TestGuests(t *testing.T) {
	h := hub.New(0, 9, 4096)
	want(t, h, load(lampHouse), api.OK)
	c := want(t, h, number(api.ReqMint, 7), api.OK).Cap
	narrow := func(kind, value int) {
		t.Helper()
		c = want(t, h, api.Request{Kind: api.ReqNarrow, Cap: c, Caveat: api.Caveat{Kind: kind, Value: value}}, api.OK).Cap
	}
	value := 0
	ask := func(room, v int, err api.Errno) {
		t.Helper()
		r := api.Request{Kind: api.ReqGuest, Cap: c, Ask: api.Ask{Room: room, Var: v, Value: 1 - value}}
		if want(t, h, r, err); err == api.OK {
			value = 1 - value
		}
	}
	ask(1, attic, api.OK)
	value = 0
	narrow(api.CavRoom, 0)
	want(t, h, api.Request{Kind: api.ReqGuest, Cap: c, Ask: api.Ask{Room: 1, Var: attic}}, api.ErrRight)
	ask(0, motion, api.OK)
	narrow(api.CavUses, 4)
	ask(0, motion, api.OK)
	narrow(api.CavAfter, 5)
	ask(0, motion, api.ErrTime)
	want(t, h, wait(5), api.OK)
	ask(0, motion, api.OK)
	ask(0, motion, api.ErrUses)
	early := capability(t, h, 8, api.Caveat{Kind: api.CavBefore, Value: 6})
	c = early
	ask(0, motion, api.OK)
	want(t, h, wait(1), api.OK)
	ask(0, motion, api.ErrTime)
	// The uses of a capability are counted by the entries that are left.
	c = capability(t, h, 9, api.Caveat{Kind: api.CavUses, Value: 1})
	want(t, h, number(api.ReqSync, 0), api.OK)
	ask(0, motion, api.OK)
	ask(0, motion, api.ErrUses)
	want(t, h, number(api.ReqCrash, 0), api.OK)
	value = statusOf(h).Values[motion]
	ask(0, motion, api.OK)
	want(t, h, number(api.ReqSync, 0), api.OK)
	want(t, h, number(api.ReqCrash, 0), api.OK)
	ask(0, motion, api.ErrUses)
	// Revoking a capability revokes what was narrowed from it.
	first := want(t, h, number(api.ReqMint, 3), api.OK).Cap
	c = first
	narrow(api.CavVar, motion)
	ask(0, motion, api.OK)
	want(t, h, number(api.ReqRevoke, first.Tag), api.OK)
	ask(0, motion, api.ErrRevoked)
	want(t, h, number(api.ReqRevoke, first.Tag), api.OK)
	c = capability(t, hub.New(0, 8, 64), 3)
	ask(0, motion, api.ErrTag)
}

// capability returns one with caveats.
func capability(t *testing.T, h *hub.Hub, id int, l ...api.Caveat) api.Cap {
	t.Helper()
	c := want(t, h, number(api.ReqMint, id), api.OK).Cap
	for _, v := range l {
		c = want(t, h, api.Request{Kind: api.ReqNarrow, Cap: c, Caveat: v}, api.OK).Cap
	}
	return c
}

// P43.6, P43.7: each command has a tree; a safe house has no clash, no endless chain and no broken law.
func TestWhole(t *testing.T) {
	m := maker{rand.New(rand.NewSource(436))}
	trees, safe := 0, 0
	for range 120 {
		h, ref := hub.New(0, 9, 4096), newRef(0, 9, 4096)
		ref.do(load(lampHouse + lampRules))
		session(m, h, 60, func(r api.Request, a api.Answer) {
			if a.Err == -1 {
				return
			}
			ref.do(r)
			for step := range ref.s.steps {
				why := h.Do(number(api.ReqExplain, step))
				if why.Err != api.OK || len(why.Why) != len(ref.s.steps[step].Commands) {
					t.Fatalf("explain %d: %+v", step, why)
				}
				for i, w := range why.Why {
					if trees++; !explain.Check(ref.s.model, ref.s.inputs, step, i, w) {
						t.Fatalf("explain %d: %+v", step, why)
					}
				}
			}
			if !statusOf(h).Safe {
				return
			}
			for i, step := range ref.s.steps {
				if safe++; len(step.Clashes) > 0 || step.Endless || len(rules.Broken(ref.s.model, step.State)) > 0 {
					t.Fatalf("the step %d of a safe house: %+v", i, step)
				}
			}
		})
	}
	if trees < 500 || safe < 5000 {
		t.Errorf("the test covers too little: %d, %d", trees, safe)
	}
}

// P43.8: hubs that merge the same journals in different orders come to the same; merging twice changes nothing.
func TestMerging(t *testing.T) {
	m := maker{rand.New(rand.NewSource(438))}
	compared := 0
	for range 150 {
		var journals [2][]api.Entry
		root := hub.New(2, 9, 4096)
		root.Do(load(lampHouse + lampRules))
		root.Do(number(api.ReqSync, 0))
		for i := range journals {
			h := hub.New(i, 9, 4096)
			h.Merge(root.Journal())
			for range 15 {
				if r := m.request(m.guest(9)); r.Kind != api.ReqCrash {
					h.Do(r)
				}
			}
			h.Do(number(api.ReqSync, 0))
			journals[i] = h.Journal()
		}
		a, b := hub.New(0, 9, 64), hub.New(2, 9, 64)
		errs := []api.Errno{a.Merge(journals[0]), a.Merge(journals[1]), b.Merge(journals[1]), b.Merge(journals[0])}
		if slices.Max(errs) > api.OK {
			continue
		}
		compared++
		if x, y := statusOf(a), statusOf(b); !same(x, y) {
			t.Fatalf("%v and %v: %+v, %+v", journals[0], journals[1], x, y)
		}
		before := statusOf(a)
		if err := a.Merge(journals[1]); err != api.OK || !same(statusOf(a), before) {
			t.Fatalf("merging %v twice: %d, %+v, before %+v", journals[1], err, statusOf(a), before)
		}
	}
	if compared < 40 {
		t.Errorf("only %d pairs of journals", compared)
	}
}

// P3: equal calls on equal hubs have equal results; results share no memory with the hub.
func TestIndependence(t *testing.T) {
	m := maker{rand.New(rand.NewSource(439))}
	for range 40 {
		a, b := hub.New(0, 9, 1024), hub.New(0, 9, 1024)
		for range 60 {
			r := m.request(m.guest(9))
			before := fmt.Sprint(r)
			x, y := a.Do(r), b.Do(r)
			if !same(x, y) || fmt.Sprint(r) != before {
				t.Fatalf("Do(%s): %+v, %+v", before, x, y)
			}
			scratch(x)
			l := a.Journal()
			for i := range l {
				for k := range l[i].Nums {
					l[i].Nums[k] = 77
				}
				l[i] = api.Entry{}
			}
			if !same(statusOf(a), statusOf(b)) || !same(a.Journal(), b.Journal()) {
				t.Fatalf("after Do(%s): %+v, %+v", before, statusOf(a), statusOf(b))
			}
		}
		l := b.Journal()
		c, d := hub.New(1, 9, 64), hub.New(1, 9, 64)
		c.Merge(l)
		d.Merge(l)
		before := fmt.Sprint(statusOf(d), len(l))
		for i := range l {
			for k := range l[i].Nums {
				l[i].Nums[k] = 77
			}
		}
		c.Merge(nil)
		if fmt.Sprint(statusOf(c), len(l)) != before {
			t.Fatalf("%s, then %+v", before, statusOf(c))
		}
	}
}

// scratch changes all memory of an answer.
func scratch(a api.Answer) {
	for i := range a.Commands {
		a.Commands[i].Var = 77
	}
	for i := range a.Findings {
		for k := range a.Findings[i].Run {
			a.Findings[i].Run[k].Var = 77
		}
		a.Findings[i].Kind = 77
	}
	for i := range a.Why {
		for k := range a.Why[i].From {
			a.Why[i].From[k].Step = 77
		}
	}
	for i := range a.Cap.Caveats {
		a.Cap.Caveats[i].Value = 77
	}
	for i := range a.Status.Values {
		a.Status.Values[i] = 77
	}
	for i := range a.Status.Quarantined {
		a.Status.Quarantined[i] = 77
	}
}
