package symmetry_test

import (
	"slices"

	"domicile/api"
	"domicile/rules"
)

// refDevices returns the devices of a model, in increasing order.
func refDevices(m api.Model) []int {
	var list []int
	for _, v := range m.Vars {
		if v.Device >= 0 && !slices.Contains(list, v.Device) {
			list = append(list, v.Device)
		}
	}
	slices.Sort(list)
	return list
}

// refVars returns the variables of a device with an Attr.
func refVars(m api.Model, device, attr int) []int {
	var list []int
	for i, v := range m.Vars {
		if v.Device == device && v.Attr == attr {
			list = append(list, i)
		}
	}
	return list
}

// refPartners returns the partner of each variable, and whether two devices fit.
func refPartners(m api.Model, x, y int) ([]int, bool) {
	var partners []int
	for i := range m.Vars {
		partners = append(partners, i)
	}
	for _, v := range m.Vars {
		a, b := refVars(m, x, v.Attr), refVars(m, y, v.Attr)
		if len(a) != len(b) || len(a) > 1 {
			return nil, false
		}
		if len(a) == 0 {
			continue
		}
		p, q := m.Vars[a[0]], m.Vars[b[0]]
		if p.Size != q.Size || p.Start != q.Start || p.Fallback != q.Fallback || p.Sensor != q.Sensor || p.Private != q.Private || p.Shown != q.Shown {
			return nil, false
		}
		partners[a[0]], partners[b[0]] = b[0], a[0]
	}
	return partners, true
}

// refAtoms returns comparisons with partners.
func refAtoms(l []api.Atom, partners []int) []api.Atom {
	var list []api.Atom
	for _, a := range l {
		list = append(list, api.Atom{Var: partners[a.Var], Op: a.Op, Value: a.Value})
	}
	return list
}

// refExchange returns a model with the partners of its variables.
func refExchange(m api.Model, partners []int) api.Model {
	n := api.Model{Vars: slices.Clone(m.Vars), Timers: m.Timers, Over: slices.Clone(m.Over)}
	for _, r := range m.Rules {
		s := api.Rule{Name: r.Name, Priority: r.Priority, Timer: r.Timer, Guard: refAtoms(r.Guard, partners), Starts: slices.Clone(r.Starts)}
		if r.Timer < 0 {
			s.Trigger = refAtoms([]api.Atom{r.Trigger}, partners)[0]
		}
		for v := range m.Vars {
			for _, e := range r.Sets {
				if partners[e.Var] == v {
					s.Sets = append(s.Sets, api.Set{Var: v, Value: e.Value})
				}
			}
		}
		n.Rules = append(n.Rules, s)
	}
	for _, l := range m.Laws {
		n.Laws = append(n.Laws, api.Law{Name: l.Name, Cond: refAtoms(l.Cond, partners), Bound: l.Bound})
	}
	return n
}

// often returns how often each element of a list occurs.
func often[T comparable](l []T) map[T]int {
	count := map[T]int{}
	for _, e := range l {
		count[e]++
	}
	return count
}

// sameCounts says whether two lists have the same elements, each as often.
func sameCounts[T comparable](a, b []T) bool {
	x, y := often(a), often(b)
	for e := range x {
		if x[e] != y[e] {
			return false
		}
	}
	return len(a) == len(b)
}

func refAlikeRules(a, b api.Rule) bool {
	return a.Priority == b.Priority && a.Timer == b.Timer && a.Trigger == b.Trigger && slices.Equal(a.Sets, b.Sets) && slices.Equal(a.Starts, b.Starts) && sameCounts(a.Guard, b.Guard)
}

func refAlikeLaws(a, b api.Law) bool { return a.Bound == b.Bound && sameCounts(a.Cond, b.Cond) }

// refSameLists says whether each element of two lists has as many in both that are alike.
func refSameLists[T any](a, b []T, alike func(T, T) bool) bool {
	count := func(l []T, e T) int {
		n := 0
		for _, x := range l {
			if alike(x, e) {
				n++
			}
		}
		return n
	}
	for _, e := range slices.Concat(a, b) {
		if count(a, e) != count(b, e) {
			return false
		}
	}
	return true
}

// refEqual says whether two models are well-formed and equal up to order.
func refEqual(a, b api.Model) bool {
	if !rules.Valid(a) || !rules.Valid(b) || len(a.Vars) != len(b.Vars) || a.Timers != b.Timers || len(a.Over) > 0 || len(b.Over) > 0 {
		return false
	}
	for i, v := range a.Vars {
		w := b.Vars[i]
		v.Name, w.Name = "", ""
		if v != w {
			return false
		}
	}
	return refSameLists(a.Rules, b.Rules, refAlikeRules) && refSameLists(a.Laws, b.Laws, refAlikeLaws)
}

// refExchangeable says whether two different devices can be exchanged.
func refExchangeable(m api.Model, x, y int) bool {
	partners, ok := refPartners(m, x, y)
	return ok && refEqual(m, refExchange(m, partners))
}

// refClasses returns the classes of the devices of a well-formed model.
func refClasses(m api.Model) [][]int {
	if len(m.Over) > 0 {
		return nil
	}
	var classes [][]int
	for _, x := range refDevices(m) {
		if slices.ContainsFunc(classes, func(c []int) bool { return slices.Contains(c, x) }) {
			continue
		}
		class := []int{x}
		for _, y := range refDevices(m) {
			if y != x && refExchangeable(m, x, y) {
				class = append(class, y)
			}
		}
		classes = append(classes, class)
	}
	return classes
}

// refSwap returns a state with two devices exchanged.
func refSwap(m api.Model, s api.State, x, y int) api.State {
	partners, _ := refPartners(m, x, y)
	n := refExchange(m, partners)
	result := api.State{Left: slices.Clone(s.Left), Over: make([]int, len(s.Over))}
	for v := range s.Values {
		result.Values = append(result.Values, s.Values[partners[v]])
	}
	taken := make([]bool, len(m.Laws))
	for i, over := range s.Over {
		for k, l := range m.Laws {
			if !taken[k] && refAlikeLaws(n.Laws[i], l) {
				taken[k], result.Over[k] = true, over
				break
			}
		}
	}
	return result
}

// refVector returns the values of a device's variables in the order of their Attrs.
func refVector(m api.Model, s api.State, device int) []int {
	var list []int
	for attr := -1; attr < 20; attr++ {
		for _, v := range refVars(m, device, attr) {
			list = append(list, s.Values[v])
		}
	}
	return list
}

// refCanon returns the representative of a well-formed state.
func refCanon(m api.Model, s api.State) api.State {
	for _, class := range refClasses(m) {
		for again := true; again; {
			again = false
			for i := 1; i < len(class) && !again; i++ {
				if slices.Compare(refVector(m, s, class[i-1]), refVector(m, s, class[i])) > 0 {
					s, again = refSwap(m, s, class[i-1], class[i]), true
				}
			}
		}
	}
	return s
}
