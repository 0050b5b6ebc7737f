package hub_test

import (
	"slices"
	"sort"
	"strings"

	"domicile/analyse"
	"domicile/api"
	guests "domicile/capability"
	"domicile/codegen"
	"domicile/explain"
	"domicile/flash"
	"domicile/merge"
	"domicile/parser"
	"domicile/printer"
	"domicile/quarantine"
	"domicile/revoke"
	"domicile/rules"
	"domicile/typing"
)

// refState is what entries and time make of an idle hub; steps are those of the rules themselves.
type refState struct {
	house    *api.House
	model    api.Model
	at       api.State
	inputs   []api.Input
	steps    []api.Step
	findings []api.Finding
	fence    int
	revoked  api.Revoked
	uses     map[int]int
	devices  []int
}

func (s *refState) start(h api.House, m api.Model) api.Errno {
	if _, err := codegen.Compile(m); err != api.OK {
		return err
	}
	l, err := analyse.Findings(m)
	if err != api.OK {
		return err
	}
	s.house, s.model, s.findings = &h, m, l
	s.at, s.inputs, s.steps = rules.Start(m), nil, nil
	return api.OK
}

func (s *refState) do(in api.Input) api.Errno {
	if len(s.inputs) == 400 {
		return api.ErrFull
	}
	step, err := rules.Apply(s.model, s.at, in)
	if err == api.OK {
		s.at = step.State
		s.inputs, s.steps = append(slices.Clone(s.inputs), in), append(slices.Clone(s.steps), step)
	}
	return err
}

// pass waits as the chapter says, and says whether the house could follow.
func (s *refState) pass(seconds int) bool {
	for s.house != nil {
		least := -1
		for _, left := range s.at.Left {
			if left >= 0 && (least < 0 || left < least) {
				least = left
			}
		}
		if least >= 0 && least <= seconds {
			if least > 0 {
				if s.do(api.Input{Kind: api.InWait, Seconds: least}) != api.OK {
					return false
				}
				seconds -= least
			}
			if s.do(api.Input{Kind: api.InExpire, Timer: slices.Index(s.at.Left, 0)}) != api.OK {
				return false
			}
			continue
		}
		for ; seconds > 0; seconds -= min(seconds, 86400) {
			if s.do(api.Input{Kind: api.InWait, Seconds: min(seconds, 86400)}) != api.OK {
				return false
			}
		}
		break
	}
	return true
}

// without removes the devices from a model.
func without(m api.Model, devices []int) (api.Model, api.Errno) {
	err := api.OK
	for _, d := range devices {
		if m, err = quarantine.Remove(m, d); err != api.OK {
			return m, err
		}
	}
	return m, api.OK
}

// enter executes an entry.
func (s *refState) enter(e api.Entry) api.Errno {
	counts := []int{0, 0, 2, 3, 1, 1, 0, 1}
	if e.Kind < 1 || e.Kind > 7 || len(e.Nums) != counts[e.Kind] || e.Text != "" && e.Kind != api.EntLoad && e.Kind != api.EntEdit {
		return api.ErrArg
	}
	if s.house == nil && (e.Kind == api.EntInput || e.Kind == api.EntGuest || e.Kind == api.EntQuarantine || e.Kind == api.EntEdit) {
		return api.ErrIdle
	}
	switch e.Kind {
	case api.EntLoad:
		if s.house != nil {
			return api.ErrState
		}
		h, err, _ := parser.Parse(e.Text)
		if err != api.OK {
			return err
		}
		m, err := typing.Model(h)
		if err != api.OK {
			return err
		}
		return s.start(h, m)
	case api.EntInput:
		return s.do(api.Input{Kind: api.InSet, Var: e.Nums[0], Value: e.Nums[1]})
	case api.EntGuest:
		err := s.do(api.Input{Kind: api.InSet, Var: e.Nums[1], Value: e.Nums[2]})
		if err == api.OK {
			s.uses[e.Nums[0]]++
		}
		return err
	case api.EntRevoke:
		r, err := revoke.Add(s.revoked, e.Nums[0])
		if err == api.OK {
			s.revoked = r
		}
		return err
	case api.EntQuarantine:
		return s.lock(e.Nums[0])
	case api.EntEdit:
		return s.change(e.Text)
	}
	if e.Nums[0] <= s.fence {
		return api.ErrFence
	}
	if e.Nums[0] > 1000000000 {
		return api.ErrArg
	}
	s.fence = e.Nums[0]
	return api.OK
}

// lock puts a device in quarantine; the model is made from the house again.
func (s *refState) lock(device int) api.Errno {
	if slices.Contains(s.devices, device) {
		return api.ErrTwice
	}
	m, _ := typing.Model(*s.house)
	m, _ = without(m, s.devices)
	m, err := quarantine.Remove(m, device)
	if err != api.OK {
		return err
	}
	for i := range m.Vars {
		if m.Vars[i].Device == device {
			m.Vars[i].Start = m.Vars[i].Fallback
		} else {
			m.Vars[i].Start = s.at.Values[i]
		}
	}
	if err := s.start(*s.house, m); err != api.OK {
		return err
	}
	s.devices = append(slices.Clone(s.devices), device)
	return api.OK
}

// change edits a rule.
func (s *refState) change(text string) api.Errno {
	i := strings.Index(text, "\n")
	if i < 0 {
		return api.ErrArg
	}
	name, text := text[:i], text[i+1:]
	h := *s.house
	h.Rules = nil
	found := false
	var rule []api.RuleText
	if text != "" {
		one, err, _ := parser.Parse(text)
		if err != api.OK {
			return err
		}
		if len(one.Rules) != 1 || one.Rules[0].Name != name || !same(one, api.House{Rules: one.Rules}) {
			return api.ErrSyntax
		}
		rule = one.Rules
	}
	for _, r := range s.house.Rules {
		if r.Name == name {
			found = true
			h.Rules = append(h.Rules, rule...)
			continue
		}
		h.Rules = append(h.Rules, r)
	}
	if !found && text == "" {
		return api.ErrNone
	}
	if !found {
		h.Rules = append(h.Rules, rule...)
	}
	m, err := typing.Model(h)
	if err == api.OK {
		m, err = without(m, s.devices)
	}
	if err != api.OK {
		return err
	}
	for i := range m.Vars {
		m.Vars[i].Start = s.at.Values[i]
	}
	return s.start(h, m)
}

func sorted(l []api.Entry) []api.Entry {
	l = slices.Clone(l)
	sort.Slice(l, func(i, j int) bool {
		a, b := l[i], l[j]
		if a.Time != b.Time {
			return a.Time < b.Time
		}
		return a.Hub < b.Hub || a.Hub == b.Hub && a.Seq < b.Seq
	})
	return l
}

func refReplay(l []api.Entry, until int) *refState {
	s := &refState{uses: map[int]int{}}
	time := 0
	for _, e := range sorted(l) {
		s.pass(e.Time - time)
		s.enter(e)
		time = e.Time
	}
	if until > time {
		s.pass(until - time)
	}
	return s
}

func (s *refState) texts() []api.Edit {
	var l []api.Edit
	if s.house != nil {
		for _, r := range s.house.Rules {
			l = append(l, api.Edit{Rule: r.Name, Text: printer.Rule(r)})
		}
	}
	sort.Slice(l, func(i, j int) bool { return l[i].Rule < l[j].Rule })
	return l
}

// refHub is a hub that follows the chapter in the plainest way.
type refHub struct {
	number, key, time, synced int
	memory                    api.Flash
	entries                   []api.Entry
	s                         *refState
}

func newRef(number, key, size int) *refHub {
	return &refHub{number: number, key: key, memory: flash.Erased(size), s: refReplay(nil, 0)}
}

func (h *refHub) enter(kind int, text string, nums ...int) api.Errno {
	e := api.Entry{Hub: h.number, Time: h.time, Kind: kind, Nums: nums, Text: text}
	for _, other := range h.entries {
		if other.Hub == h.number && other.Seq >= e.Seq {
			e.Seq = other.Seq + 1
		}
	}
	err := h.s.enter(e)
	if err == api.OK {
		h.entries = append(h.entries, e)
	}
	return err
}

func (h *refHub) do(r api.Request) api.Answer {
	var a api.Answer
	entry := r.Kind == api.ReqInput && r.Input.Kind == api.InSet
	switch r.Kind {
	case api.ReqLoad, api.ReqGuest, api.ReqRevoke, api.ReqQuarantine, api.ReqEdit, api.ReqTake:
		entry = true
	}
	before := len(h.s.steps)
	switch {
	case entry && len(h.entries) >= 400:
		a.Err = api.ErrFull
	case entry && h.time > 1000000000:
		a.Err = api.ErrTime
	default:
		a = h.answer(r)
	}
	if a.Err != api.OK {
		return api.Answer{Err: a.Err}
	}
	switch r.Kind {
	case api.ReqInput, api.ReqGuest:
		for _, step := range h.s.steps[before:] {
			a.Commands = append(a.Commands, step.Commands...)
		}
	case api.ReqLoad, api.ReqQuarantine, api.ReqEdit, api.ReqAnalyse:
		a.Findings = h.s.findings
	}
	return a
}

// answer does a request; what follows from the new state is added afterwards.
func (h *refHub) answer(r api.Request) (a api.Answer) {
	idle := h.s.house == nil
	switch r.Kind {
	case api.ReqLoad:
		a.Err = h.enter(api.EntLoad, r.Text)
	case api.ReqInput, api.ReqGuest, api.ReqQuarantine, api.ReqEdit, api.ReqExplain, api.ReqAnalyse:
		if a.Err = api.ErrIdle; !idle {
			a = h.house(r)
		}
	case api.ReqMint:
		if a.Err = api.ErrArg; r.N >= 0 && r.N <= 1000000 {
			a = api.Answer{Cap: guests.Mint(h.key, r.N)}
		}
	case api.ReqNarrow:
		a.Cap, a.Err = guests.Narrow(r.Cap, r.Caveat)
	case api.ReqRevoke:
		a.Err = h.enter(api.EntRevoke, "", r.N)
	case api.ReqTake:
		a.Err = h.enter(api.EntTake, "", r.N)
	case api.ReqSync:
		f, n, _ := h.write(1 << 60)
		if a.Err = api.ErrFull; n == len(h.entries) {
			h.memory, h.synced, a.Err = f, n, api.OK
		}
	case api.ReqCrash:
		if r.N < 0 {
			a.Err = api.ErrArg
			break
		}
		f, n, _ := h.write(r.N)
		h.memory, h.entries, h.synced, h.time = f, slices.Clone(h.entries[:n]), n, 0
		for _, e := range h.entries {
			h.time = max(h.time, e.Time+1)
		}
		h.s = refReplay(h.entries, h.time)
	case api.ReqStatus:
		a.Status = h.status()
	default:
		a.Err = api.ErrArg
	}
	return a
}

func (h *refHub) status() api.Status {
	s := api.Status{Running: h.s.house != nil, Safe: h.s.house != nil, Steps: len(h.s.inputs), Fence: h.s.fence, Values: h.s.at.Values, Quarantined: h.s.devices}
	for _, f := range h.s.findings {
		s.Safe = s.Safe && f.Kind == api.FindDead
	}
	return s
}

// house does a request that needs a house.
func (h *refHub) house(r api.Request) (a api.Answer) {
	switch r.Kind {
	case api.ReqInput:
		if r.Input.Kind == api.InSet {
			a.Err = h.enter(api.EntInput, "", r.Input.Var, r.Input.Value)
			break
		}
		s := *h.s
		switch seconds := r.Input.Seconds; {
		case r.Input.Kind != api.InWait || seconds < 1 || seconds > 86400:
			a.Err = api.ErrArg
		case h.time+seconds > 1000000000:
			a.Err = api.ErrTime
		case !s.pass(seconds):
			a.Err = api.ErrFull
		default:
			h.s = &s
			h.time += seconds
		}
	case api.ReqGuest:
		if a.Err = h.admit(r); a.Err == api.OK {
			a.Err = h.enter(api.EntGuest, "", r.Cap.Id, r.Ask.Var, r.Ask.Value)
		}
	case api.ReqQuarantine:
		a.Err = h.enter(api.EntQuarantine, "", r.N)
	case api.ReqEdit:
		if one, err, _ := parser.Parse("room " + r.Edit.Rule + ";"); err != api.OK || !same(one, api.House{Rooms: []string{r.Edit.Rule}}) {
			a.Err = api.ErrArg
		} else if len(r.Edit.Rule)+len(r.Edit.Text) > 19999 {
			a.Err = api.ErrLimit
		} else {
			a.Err = h.enter(api.EntEdit, r.Edit.Rule+"\n"+r.Edit.Text)
		}
	case api.ReqExplain:
		if r.N < 0 || r.N >= len(h.s.steps) {
			a.Err = api.ErrNone
			break
		}
		for i := range h.s.steps[r.N].Commands {
			w, err := explain.Tree(h.s.model, h.s.inputs, r.N, i)
			if a.Err == api.OK {
				a.Err = err
			}
			a.Why = append(a.Why, w)
		}
	}
	return a
}

func (h *refHub) admit(r api.Request) api.Errno {
	if r.Ask.Var < 0 || r.Ask.Var >= len(h.s.model.Vars) {
		return api.ErrName
	}
	v := h.s.model.Vars[r.Ask.Var]
	if v.Device == -1 || !v.Sensor {
		return api.ErrName
	}
	if r.Ask.Room < 0 || r.Ask.Room >= len(h.s.house.Rooms) || h.s.house.Rooms[r.Ask.Room] != h.s.house.Devices[v.Device].Room {
		return api.ErrRight
	}
	r.Ask.Time = h.time
	return revoke.Check(h.key, h.s.revoked, r.Cap, r.Ask, h.s.uses[r.Cap.Id])
}

// code is the code of a number of layer 24.
func code(n int) []byte {
	u := 2 * n
	if n < 0 {
		u = -2*n - 1
	}
	var b []byte
	for u > 127 {
		b = append(b, byte(u&127|128))
		u >>= 7
	}
	return append(b, byte(u))
}

// records returns the records of an entry.
func records(e api.Entry) [][]byte {
	var b []byte
	for _, n := range append([]int{e.Hub, e.Seq, e.Time, e.Kind, len(e.Nums)}, append(slices.Clone(e.Nums), len(e.Text))...) {
		b = append(b, code(n)...)
	}
	b = append(b, e.Text...)
	var l [][]byte
	for i := 0; i < len(b); i += 199 {
		first := byte(0)
		if i == 0 {
			first = 2
		}
		if i+199 < len(b) {
			first++
		}
		l = append(l, append([]byte{first}, b[i:min(i+199, len(b))]...))
	}
	return l
}

// write returns the memory after at most n steps of syncing, how many entries are in it then, and how many steps there were.
func (h *refHub) write(n int) (api.Flash, int, int) {
	f, entries, all := h.memory, h.synced, 0
	for _, e := range h.entries[h.synced:] {
		g := f
		var steps []api.Flash
		for _, r := range records(e) {
			next, err := flash.Append(g, r)
			if err != api.OK {
				return f, entries, all
			}
			steps = append(steps, flash.Steps(g, next)...)
			g = next
		}
		if n-all < len(steps) {
			if n > all {
				f = steps[n-all-1]
			}
			return f, entries, n
		}
		f, entries, all = g, entries+1, all+len(steps)
	}
	return f, entries, all
}

func (h *refHub) journal() []api.Entry { return sorted(h.entries[:h.synced]) }

func (h *refHub) merge(l []api.Entry) api.Errno {
	for _, e := range l {
		for _, n := range e.Nums {
			if n < -2147483648 || n > 2147483647 {
				return api.ErrArg
			}
		}
	}
	mine := sorted(h.entries)
	all, err := merge.Merge(mine, l)
	if err != api.OK {
		return err
	}
	var both, lacking []api.Entry
	for _, e := range mine {
		if slices.ContainsFunc(l, func(x api.Entry) bool { return same(x, e) }) {
			both = append(both, e)
		}
	}
	for _, e := range l {
		if !slices.ContainsFunc(mine, func(x api.Entry) bool { return same(x, e) }) {
			lacking = append(lacking, e)
		}
	}
	_, conflicts, err := merge.Rules(refReplay(both, 0).texts(), refReplay(mine, 0).texts(), refReplay(l, 0).texts())
	if err != api.OK {
		return err
	}
	if len(conflicts) > 0 {
		return api.ErrConflict
	}
	h.entries = append(h.entries, lacking...)
	for _, e := range all {
		h.time = max(h.time, e.Time+1)
	}
	h.s = refReplay(all, h.time)
	return api.OK
}
