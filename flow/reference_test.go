package flow_test

import (
	"slices"

	"domicile/api"
)

// refHiddenRule says whether a rule is hidden, if some variables and timers are.
func refHiddenRule(r api.Rule, vars, timers []bool) bool {
	if r.Timer >= 0 {
		if timers[r.Timer] {
			return true
		}
	} else if vars[r.Trigger.Var] {
		return true
	}
	for _, a := range r.Guard {
		if vars[a.Var] {
			return true
		}
	}
	return false
}

// refHidden returns what is hidden: the sets grow until all rules have been gone through without a change.
func refHidden(m api.Model) ([]bool, []bool) {
	vars, timers := make([]bool, len(m.Vars)), make([]bool, m.Timers)
	for i, v := range m.Vars {
		vars[i] = v.Private && v.Sensor
	}
	for range len(m.Rules) + 1 {
		for _, r := range m.Rules {
			if !refHiddenRule(r, vars, timers) {
				continue
			}
			for _, e := range r.Sets {
				vars[e.Var] = true
			}
			for _, e := range r.Starts {
				timers[e.Timer] = true
			}
		}
	}
	return vars, timers
}

// refLeaks returns the leaks.
func refLeaks(m api.Model) []api.Leak {
	vars, timers := refHidden(m)
	var list []api.Leak
	for rule := -1; rule < len(m.Rules); rule++ {
		for v, variable := range m.Vars {
			leak := rule < 0 && variable.Private && variable.Sensor
			if rule >= 0 {
				r := m.Rules[rule]
				leak = refHiddenRule(r, vars, timers) && slices.ContainsFunc(r.Sets, func(e api.Set) bool { return e.Var == v })
			}
			if leak && variable.Shown {
				list = append(list, api.Leak{Rule: rule, Var: v})
			}
		}
	}
	return list
}

// refPurge returns the purged inputs: what is hidden or no wait at all is left out first, and then waits are joined.
func refPurge(m api.Model, l []api.Input) []api.Input {
	vars, timers := refHidden(m)
	var kept []api.Input
	for _, in := range l {
		hiddenSet := in.Kind == api.InSet && in.Var >= 0 && in.Var < len(vars) && vars[in.Var]
		hiddenExpire := in.Kind == api.InExpire && in.Timer >= 0 && in.Timer < len(timers) && timers[in.Timer]
		if !hiddenSet && !hiddenExpire && (in.Kind != api.InWait || in.Seconds >= 1 && in.Seconds <= 86400) {
			kept = append(kept, in)
		}
	}
	var list []api.Input
	for i := 0; i < len(kept); {
		if kept[i].Kind != api.InWait {
			list = append(list, kept[i])
			i++
			continue
		}
		sum := 0
		for ; i < len(kept) && kept[i].Kind == api.InWait; i++ {
			sum += kept[i].Seconds
		}
		list = append(list, slices.Repeat([]api.Input{{Kind: api.InWait, Seconds: 86400}}, sum/86400)...)
		if sum%86400 > 0 {
			list = append(list, api.Input{Kind: api.InWait, Seconds: sum % 86400})
		}
	}
	return list
}
