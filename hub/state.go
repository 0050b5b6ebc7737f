package hub

import (
	"cmp"
	"slices"

	"domicile/analyse"
	"domicile/api"
	"domicile/codegen"
	"domicile/machine"
	"domicile/printer"
)

const (
	maxInputs = 400   // of a house, since it was started
	maxWait   = 86400 // seconds of one input
)

// state is what entries and time make of an idle hub.
type state struct {
	running     bool
	house       api.House
	model       api.Model // without the devices in quarantine, and with the values at the start
	program     api.Program
	now         api.State
	inputs      []api.Input
	commands    [][]api.Command // of each input
	findings    []api.Finding
	fence       int
	revoked     api.Revoked
	uses        map[int]int // by the identifiers of capabilities
	quarantined []int
}

func idle() state { return state{uses: map[int]int{}} }

// replay returns what entries, in order, and then the time make of an idle hub.
func replay(l []api.Entry, until int) state {
	s := idle()
	time := 0
	for _, e := range l {
		s.wait(e.Time - time)
		s.execute(e)
		time = e.Time
	}
	s.wait(until - time)
	return s
}

// begin starts a house with a model that can be compiled and analysed.
func (s *state) begin(house api.House, model api.Model) api.Errno {
	program, err := codegen.Compile(model)
	if err != api.OK {
		return err
	}
	findings, err := analyse.Findings(model)
	if err != api.OK {
		return err
	}
	s.running, s.house, s.model, s.program, s.findings = true, house, model, program, findings
	s.now, s.inputs, s.commands = machine.Start(program), nil, nil
	return api.OK
}

// apply gives the house an input.
func (s *state) apply(in api.Input) api.Errno {
	if len(s.inputs) >= maxInputs {
		return api.ErrFull
	}
	step, err := machine.Apply(s.program, s.now, in)
	if err != api.OK {
		return err
	}
	s.now = step.State
	s.inputs = append(s.inputs, in)
	s.commands = append(s.commands, step.Commands)
	return api.OK
}

// wait lets time pass, in parts, and returns an error if the house has stopped before its end.
func (s *state) wait(seconds int) api.Errno {
	if !s.running {
		return api.OK
	}
	for {
		in, ok := s.part(seconds)
		if !ok {
			return api.OK
		}
		if err := s.apply(in); err != api.OK {
			return err
		}
		seconds -= in.Seconds
	}
}

// part returns the next input of waiting for some seconds, if there is one.
func (s *state) part(seconds int) (api.Input, bool) {
	first := -1
	for timer, left := range s.now.Left {
		if left >= 0 && (first < 0 || left < s.now.Left[first]) {
			first = timer
		}
	}
	switch {
	case first >= 0 && s.now.Left[first] == 0:
		return api.Input{Kind: api.InExpire, Timer: first}, true
	case first >= 0 && s.now.Left[first] <= seconds:
		return api.Input{Kind: api.InWait, Seconds: s.now.Left[first]}, true
	case seconds > 0:
		return api.Input{Kind: api.InWait, Seconds: min(seconds, maxWait)}, true
	}
	return api.Input{}, false
}

// isSafe reports whether the analysis found nothing but rules that never fire.
func (s *state) isSafe() bool {
	return s.running && !slices.ContainsFunc(s.findings, func(f api.Finding) bool { return f.Kind != api.FindDead })
}

// rules returns the canonical texts of the rules, by their names.
func (s *state) rules() []api.Edit {
	var l []api.Edit
	for _, r := range s.house.Rules {
		l = append(l, api.Edit{Rule: r.Name, Text: printer.Rule(r)})
	}
	slices.SortFunc(l, func(a, b api.Edit) int { return cmp.Compare(a.Rule, b.Rule) })
	return l
}
