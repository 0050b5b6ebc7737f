package hub

import (
	"slices"

	"domicile/api"
	"domicile/capability"
	"domicile/explain"
	"domicile/printer"
	"domicile/revoke"
)

const maxId = 1000000 // the greatest identifier of a capability

func requests() map[int]func(*Hub, api.Request) (api.Answer, api.Errno) {
	return map[int]func(*Hub, api.Request) (api.Answer, api.Errno){
		api.ReqLoad:       (*Hub).doLoad,
		api.ReqInput:      (*Hub).doInput,
		api.ReqGuest:      (*Hub).doGuest,
		api.ReqNarrow:     (*Hub).doNarrow,
		api.ReqRevoke:     (*Hub).doRevoke,
		api.ReqQuarantine: (*Hub).doQuarantine,
		api.ReqEdit:       (*Hub).doEdit,
		api.ReqExplain:    (*Hub).doExplain,
		api.ReqAnalyse:    (*Hub).doAnalyse,
		api.ReqSync:       (*Hub).doSync,
		api.ReqCrash:      (*Hub).doCrash,
		api.ReqTake:       (*Hub).doTake,
		api.ReqStatus:     (*Hub).doStatus,
		api.ReqMint:       (*Hub).doMint,
	}
}

// makesEntry reports whether a request makes an entry if it has no error.
func makesEntry(r api.Request) bool {
	switch r.Kind {
	case api.ReqLoad, api.ReqGuest, api.ReqRevoke, api.ReqQuarantine, api.ReqEdit, api.ReqTake:
		return true
	case api.ReqInput:
		return r.Input.Kind == api.InSet
	}
	return false
}

// record executes an entry of the hub, and keeps it if it has no error.
func (h *Hub) record(kind int, text string, nums ...int) api.Errno {
	seq := 0
	for _, e := range h.entries {
		if e.Hub == h.number {
			seq = max(seq, e.Seq+1)
		}
	}
	e := api.Entry{Hub: h.number, Seq: seq, Time: h.time, Kind: kind, Nums: nums, Text: text}
	err := h.execute(e)
	if err == api.OK {
		h.entries = append(h.entries, e)
	}
	return err
}

func (h *Hub) doLoad(r api.Request) (api.Answer, api.Errno) {
	err := h.record(api.EntLoad, r.Text)
	return api.Answer{Findings: h.foundNow()}, err
}

func (h *Hub) doInput(r api.Request) (api.Answer, api.Errno) {
	switch {
	case !h.running:
		return api.Answer{}, api.ErrIdle
	case r.Input.Kind == api.InSet:
		before := len(h.inputs)
		err := h.record(api.EntInput, "", r.Input.Var, r.Input.Value)
		return api.Answer{Commands: h.commandsFrom(before)}, err
	case r.Input.Kind == api.InWait:
		return h.pass(r.Input.Seconds)
	}
	return api.Answer{}, api.ErrArg
}

// pass lets time pass, unless the house cannot follow.
func (h *Hub) pass(seconds int) (api.Answer, api.Errno) {
	if !within(seconds, 1, maxWait) {
		return api.Answer{}, api.ErrArg
	}
	if h.time > api.MaxTime-seconds {
		return api.Answer{}, api.ErrTime
	}
	before := len(h.inputs)
	later := h.state
	// What is appended to the lists of the later state must not be seen by the present one.
	later.inputs, later.commands = slices.Clip(later.inputs), slices.Clip(later.commands)
	if err := later.wait(seconds); err != api.OK {
		return api.Answer{}, err
	}
	h.state = later
	h.time += seconds
	return api.Answer{Commands: h.commandsFrom(before)}, api.OK
}

func (h *Hub) doGuest(r api.Request) (api.Answer, api.Errno) {
	if !h.running {
		return api.Answer{}, api.ErrIdle
	}
	if err := h.admit(r.Cap, r.Ask); err != api.OK {
		return api.Answer{}, err
	}
	before := len(h.inputs)
	err := h.record(api.EntGuest, "", r.Cap.Id, r.Ask.Var, r.Ask.Value)
	return api.Answer{Commands: h.commandsFrom(before)}, err
}

// admit returns OK if a guest may ask for a change of a sensor.
func (h *Hub) admit(c api.Cap, a api.Ask) api.Errno {
	if !within(a.Var, 0, len(h.model.Vars)-1) {
		return api.ErrName
	}
	v := h.model.Vars[a.Var]
	if v.Device < 0 || !v.Sensor {
		return api.ErrName
	}
	if a.Room != slices.Index(h.house.Rooms, h.house.Devices[v.Device].Room) {
		return api.ErrRight
	}
	a.Time = h.time
	return revoke.Check(h.key, h.revoked, c, a, h.uses[c.Id])
}

func (h *Hub) doMint(r api.Request) (api.Answer, api.Errno) {
	if !within(r.N, 0, maxId) {
		return api.Answer{}, api.ErrArg
	}
	return api.Answer{Cap: capability.Mint(h.key, r.N)}, api.OK
}

func (h *Hub) doNarrow(r api.Request) (api.Answer, api.Errno) {
	c, err := capability.Narrow(r.Cap, r.Caveat)
	return api.Answer{Cap: c}, err
}

func (h *Hub) doRevoke(r api.Request) (api.Answer, api.Errno) {
	return api.Answer{}, h.record(api.EntRevoke, "", r.N)
}

func (h *Hub) doQuarantine(r api.Request) (api.Answer, api.Errno) {
	err := h.record(api.EntQuarantine, "", r.N)
	return api.Answer{Findings: h.foundNow()}, err
}

func (h *Hub) doEdit(r api.Request) (api.Answer, api.Errno) {
	if !h.running {
		return api.Answer{}, api.ErrIdle
	}
	if !isName(r.Edit.Rule) {
		return api.Answer{}, api.ErrArg
	}
	if len(r.Edit.Rule)+1+len(r.Edit.Text) > api.MaxSource {
		return api.Answer{}, api.ErrLimit
	}
	err := h.record(api.EntEdit, r.Edit.Rule+"\n"+r.Edit.Text)
	return api.Answer{Findings: h.foundNow()}, err
}

func (h *Hub) doTake(r api.Request) (api.Answer, api.Errno) {
	return api.Answer{}, h.record(api.EntTake, "", r.N)
}

func (h *Hub) doExplain(r api.Request) (api.Answer, api.Errno) {
	if !h.running {
		return api.Answer{}, api.ErrIdle
	}
	if !within(r.N, 0, len(h.inputs)-1) {
		return api.Answer{}, api.ErrNone
	}
	var trees []api.Why
	for i := range h.commands[r.N] {
		tree, err := explain.Tree(h.model, h.inputs, r.N, i)
		if err != api.OK {
			return api.Answer{}, err
		}
		trees = append(trees, tree)
	}
	return api.Answer{Why: trees}, api.OK
}

func (h *Hub) doAnalyse(api.Request) (api.Answer, api.Errno) {
	if !h.running {
		return api.Answer{}, api.ErrIdle
	}
	return api.Answer{Findings: h.foundNow()}, api.OK
}

func (h *Hub) doStatus(api.Request) (api.Answer, api.Errno) {
	return api.Answer{Status: api.Status{
		Running:     h.running,
		Safe:        h.isSafe(),
		Steps:       len(h.inputs),
		Fence:       h.fence,
		Values:      slices.Clone(h.now.Values),
		Quarantined: slices.Clone(h.quarantined),
	}}, api.OK
}

// commandsFrom returns the commands of the inputs from an index on.
func (h *Hub) commandsFrom(index int) []api.Command {
	return slices.Concat(h.commands[index:]...)
}

// foundNow returns a copy of the findings about the present model.
func (h *Hub) foundNow() []api.Finding {
	l := slices.Clone(h.findings)
	for i, f := range l {
		l[i].Run = slices.Clone(f.Run)
	}
	return l
}

// isName reports whether a text can be the name of something in a house.
func isName(text string) bool { return printer.Printable(api.House{Rooms: []string{text}}) }
