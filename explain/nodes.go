package explain

import "domicile/api"

// count counts a node, and ends the computation if there are too many.
func (h *history) count() {
	h.nodes++
	if h.nodes > api.MaxNodes {
		panic(api.ErrLimit)
	}
}

func (h *history) assignmentNode(a assignment) api.Why {
	h.count()
	switch {
	case a.rule >= 0:
		return api.Why{Kind: api.WhyRule, Step: a.at.step, Rule: a.rule, Var: a.variable, Value: a.value, From: h.causes(firing{a.at, a.rule})}
	case a.at.step >= 0:
		return api.Why{Kind: api.WhyInput, Step: a.at.step, Rule: -1, Var: a.variable, Value: a.value}
	}
	return api.Why{Kind: api.WhyStart, Rule: -1, Var: a.variable, Value: a.value}
}

// expiryNode returns the node of the expiry that is the input of a step.
func (h *history) expiryNode(step int) api.Why {
	h.count()
	timer := h.inputs[step].Timer
	return api.Why{Kind: api.WhyInput, Step: step, Rule: -1, Var: -1, Value: timer, From: []api.Why{h.startNode(timer, h.lastStart(timer, step))}}
}

func (h *history) startNode(timer int, f firing) api.Why {
	h.count()
	return api.Why{Kind: api.WhyRule, Step: f.at.step, Rule: f.rule, Var: -1, Value: timer, From: h.causes(f)}
}

// causes returns the nodes of what made a rule fire.
func (h *history) causes(f firing) []api.Why {
	rule := h.model.Rules[f.rule]
	var from []api.Why
	if rule.Timer >= 0 {
		from = append(from, h.expiryNode(f.at.step))
	} else {
		// A comparison becomes true by what was assigned just before the wave.
		from = append(from, h.assignmentNode(h.before(rule.Trigger.Var, f.at)))
	}
	for _, a := range rule.Guard {
		from = append(from, h.assignmentNode(h.before(a.Var, f.at)))
	}
	return from
}
