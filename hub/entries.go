package hub

import (
	"slices"
	"strings"

	"domicile/api"
	"domicile/parser"
	"domicile/quarantine"
	"domicile/revoke"
	"domicile/typing"
)

// kind says what entries of a kind have, and what executes them.
type kind struct {
	nums           int
	text, anywhere bool // anywhere: also without a house
	execute        func(*state, api.Entry) api.Errno
}

func kinds() map[int]kind {
	return map[int]kind{
		api.EntLoad:       {text: true, anywhere: true, execute: (*state).load},
		api.EntInput:      {nums: 2, execute: (*state).input},
		api.EntGuest:      {nums: 3, execute: (*state).guest},
		api.EntRevoke:     {nums: 1, anywhere: true, execute: (*state).revoke},
		api.EntQuarantine: {nums: 1, execute: (*state).quarantine},
		api.EntEdit:       {text: true, execute: (*state).edit},
		api.EntTake:       {nums: 1, anywhere: true, execute: (*state).take},
	}
}

// execute executes an entry; if it is not permitted, it has no effect but the error.
func (s *state) execute(e api.Entry) api.Errno {
	k, ok := kinds()[e.Kind]
	if !ok || len(e.Nums) != k.nums || e.Text != "" && !k.text {
		return api.ErrArg
	}
	if !k.anywhere && !s.running {
		return api.ErrIdle
	}
	return k.execute(s, e)
}

func (s *state) load(e api.Entry) api.Errno {
	if s.running {
		return api.ErrState
	}
	house, err, _ := parser.Parse(e.Text)
	if err != api.OK {
		return err
	}
	model, err := typing.Model(house)
	if err != api.OK {
		return err
	}
	return s.begin(house, model)
}

func (s *state) input(e api.Entry) api.Errno {
	return s.apply(api.Input{Kind: api.InSet, Var: e.Nums[0], Value: e.Nums[1]})
}

func (s *state) guest(e api.Entry) api.Errno {
	err := s.apply(api.Input{Kind: api.InSet, Var: e.Nums[1], Value: e.Nums[2]})
	if err == api.OK {
		s.uses[e.Nums[0]]++
	}
	return err
}

func (s *state) revoke(e api.Entry) api.Errno {
	revoked, err := revoke.Add(s.revoked, e.Nums[0])
	if err == api.OK {
		s.revoked = revoked
	}
	return err
}

func (s *state) quarantine(e api.Entry) api.Errno {
	device := e.Nums[0]
	if slices.Contains(s.quarantined, device) {
		return api.ErrTwice
	}
	model, err := quarantine.Remove(s.model, device)
	if err != api.OK {
		return err
	}
	for i, v := range model.Vars {
		// The variables of the device start with their fallback values.
		if v.Device != device {
			model.Vars[i].Start = s.now.Values[i]
		}
	}
	if err := s.begin(s.house, model); err != api.OK {
		return err
	}
	s.quarantined = append(s.quarantined, device)
	return api.OK
}

func (s *state) edit(e api.Entry) api.Errno {
	name, text, ok := strings.Cut(e.Text, "\n")
	if !ok {
		return api.ErrArg
	}
	house, err := edited(s.house, name, text)
	if err != api.OK {
		return err
	}
	model, err := typing.Model(house)
	if err != api.OK {
		return err
	}
	for _, device := range s.quarantined {
		if model, err = quarantine.Remove(model, device); err != api.OK {
			return err
		}
	}
	// An edit changes no variables, so that they keep their indices.
	for i := range model.Vars {
		model.Vars[i].Start = s.now.Values[i]
	}
	return s.begin(house, model)
}

func (s *state) take(e api.Entry) api.Errno {
	if e.Nums[0] <= s.fence {
		return api.ErrFence
	}
	if e.Nums[0] > api.MaxNumber {
		return api.ErrArg
	}
	s.fence = e.Nums[0]
	return api.OK
}

// edited returns a house in which a rule has another text, or is not there if the text is empty.
func edited(house api.House, name, text string) (api.House, api.Errno) {
	at := slices.IndexFunc(house.Rules, func(r api.RuleText) bool { return r.Name == name })
	rules := slices.Clone(house.Rules)
	if text == "" {
		if at < 0 {
			return api.House{}, api.ErrNone
		}
		house.Rules = slices.Delete(rules, at, at+1)
		return house, api.OK
	}
	rule, err := ruleIn(text, name)
	if err != api.OK {
		return api.House{}, err
	}
	if at < 0 {
		house.Rules = append(rules, rule)
		return house, api.OK
	}
	rules[at] = rule
	house.Rules = rules
	return house, api.OK
}

// ruleIn returns the rule of a text that consists of exactly one rule, which has a name.
func ruleIn(text, name string) (api.RuleText, api.Errno) {
	h, err, _ := parser.Parse(text)
	if err != api.OK {
		return api.RuleText{}, err
	}
	others := len(h.Rooms) + len(h.Kinds) + len(h.Devices) + len(h.Persons) + len(h.Modes) + len(h.Timers) + len(h.Quiet) + len(h.Scenes) + len(h.Laws)
	if others > 0 || len(h.Rules) != 1 || h.Rules[0].Name != name {
		return api.RuleText{}, api.ErrSyntax
	}
	return h.Rules[0], api.OK
}
