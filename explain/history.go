package explain

import (
	"iter"
	"sort"

	"domicile/api"
)

// beforeWaves is the place of an input among the waves of its step.
const beforeWaves = -1

// moment is a place in a run; start values are there before all steps.
type moment struct{ step, wave int }

func (m moment) isBefore(other moment) bool {
	return m.step < other.step || m.step == other.step && m.wave < other.wave
}

// assignment gives a variable a value; a rule has the index -1 if none gives it.
type assignment struct {
	at                    moment
	rule, variable, value int
}

// firing is a rule that fires at a moment.
type firing struct {
	at   moment
	rule int
}

// history is what happened in a run.
type history struct {
	model       api.Model
	inputs      []api.Input
	preferred   map[api.Pair]bool
	assignments [][]assignment // by variables, in order
	starts      [][]firing     // by timers, in order
	nodes       int
}

func newHistory(m api.Model, l []api.Input, steps []api.Step) *history {
	h := &history{model: m, inputs: l, preferred: map[api.Pair]bool{}}
	for _, p := range m.Over {
		h.preferred[p] = true
	}
	h.starts = make([][]firing, m.Timers)
	h.assignments = make([][]assignment, len(m.Vars))
	for i, v := range m.Vars {
		h.assign(assignment{moment{-1, beforeWaves}, -1, i, v.Start})
	}
	for i, step := range steps {
		if in := l[i]; in.Kind == api.InSet {
			h.assign(assignment{moment{i, beforeWaves}, -1, in.Var, in.Value})
		}
		for wave, fired := range waves(step) {
			h.note(moment{i, wave}, fired)
		}
	}
	return h
}

// waves yields the rules that fire in each wave of a step, in order.
func waves(step api.Step) iter.Seq2[int, []int] {
	return func(yield func(int, []int) bool) {
		var fired []int
		for i, f := range step.Firings {
			fired = append(fired, f.Rule)
			if i+1 < len(step.Firings) && step.Firings[i+1].Wave == f.Wave {
				continue
			}
			if !yield(f.Wave, fired) {
				return
			}
			fired = nil
		}
	}
}

func (h *history) assign(a assignment) {
	h.assignments[a.variable] = append(h.assignments[a.variable], a)
}

// note adds what the rules that fire in a wave command and start.
func (h *history) note(at moment, fired []int) {
	present := map[int]api.Command{}
	for _, rule := range fired {
		for _, set := range h.model.Rules[rule].Sets {
			c := api.Command{Rule: rule, Var: set.Var, Value: set.Value}
			if d, ok := present[set.Var]; !ok || h.replaces(c, d) {
				present[set.Var] = c
			}
		}
		for _, start := range h.model.Rules[rule].Starts {
			if start.Seconds != 0 {
				h.starts[start.Timer] = append(h.starts[start.Timer], firing{at, rule})
			}
		}
	}
	for variable, c := range present {
		h.assign(assignment{at, c.Rule, variable, c.Value})
	}
}

// replaces reports whether a command takes the place of the present one, which is of a rule before its own.
func (h *history) replaces(c, present api.Command) bool {
	mine, other := h.model.Rules[c.Rule].Priority, h.model.Rules[present.Rule].Priority
	if mine != other || c.Value == present.Value {
		return mine > other
	}
	return h.preferred[api.Pair{Winner: c.Rule, Loser: present.Rule}]
}

// before returns the last assignment of a variable before a moment.
func (h *history) before(variable int, at moment) assignment {
	l := h.assignments[variable]
	n := sort.Search(len(l), func(i int) bool { return !l[i].at.isBefore(at) })
	return l[n-1]
}

// lastOf returns the last assignment of a variable in the run.
func (h *history) lastOf(variable int) assignment {
	l := h.assignments[variable]
	return l[len(l)-1]
}

// lastStart returns the last firing before a step that starts a timer.
func (h *history) lastStart(timer, step int) firing {
	l := h.starts[timer]
	n := sort.Search(len(l), func(i int) bool { return l[i].at.step >= step })
	return l[n-1]
}
