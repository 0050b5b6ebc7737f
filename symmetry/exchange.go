package symmetry

import (
	"cmp"
	"slices"

	"domicile/api"
)

// exchange has the partners of the variables of two devices.
type exchange map[int]int

// partner returns the partner of a variable: it is its own one, if it belongs to none of the devices.
func (e exchange) partner(v int) int {
	if w, ok := e[v]; ok {
		return w
	}
	return v
}

// atom returns a comparison after the exchange.
func (e exchange) atom(a api.Atom) api.Atom {
	a.Var = e.partner(a.Var)
	return a
}

// set returns an element of Sets after the exchange.
func (e exchange) set(s api.Set) api.Set {
	s.Var = e.partner(s.Var)
	return s
}

// rule returns a rule after the exchange.
func (e exchange) rule(r api.Rule) api.Rule {
	if r.Timer == -1 {
		r.Trigger = e.atom(r.Trigger)
	}
	r.Guard, r.Sets, r.Starts = mapped(r.Guard, e.atom), mapped(r.Sets, e.set), slices.Clone(r.Starts)
	slices.SortFunc(r.Sets, func(a, b api.Set) int { return cmp.Compare(a.Var, b.Var) })
	return r
}

// law returns a law after the exchange.
func (e exchange) law(l api.Law) api.Law {
	l.Cond = mapped(l.Cond, e.atom)
	return l
}

// arrange exchanges devices of a class, next to each other, until their vectors increase. After an exchange, the first pair in the wrong order is not before the one that ends where this one begins.
func (o outline) arrange(s api.State, class []int) {
	moves := map[int][]int{}
	for i := 0; i+1 < len(class); {
		x, y := class[i], class[i+1]
		if slices.Compare(o.vector(s, x), o.vector(s, y)) <= 0 {
			i++
			continue
		}
		if moves[i] == nil {
			moves[i] = o.lawMoves(x, y)
		}
		for k, v := range o.vars[x] {
			w := o.vars[y][k]
			s.Values[v], s.Values[w] = s.Values[w], s.Values[v]
		}
		before := slices.Clone(s.Over)
		for law, to := range moves[i] {
			s.Over[to] = before[law]
		}
		i = max(i-1, 0)
	}
}

// vector returns the values of a device's variables.
func (o outline) vector(s api.State, device int) []int {
	return mapped(o.vars[device], func(v int) int { return s.Values[v] })
}

// lawMoves returns, for each law, the one to which its number goes when two devices are exchanged: of several laws that are alike, the first one goes to the first one, and so on.
func (o outline) lawMoves(x, y int) []int {
	swap, _ := o.exchange(x, y)
	laws := o.texts[len(o.model.Rules):]
	places := map[string][]int{}
	for law, text := range laws {
		places[text] = append(places[text], law)
	}
	moves := make([]int, len(laws))
	for law := range laws {
		text := o.exchangedText(len(o.model.Rules)+law, swap)
		moves[law] = places[text][0]
		places[text] = places[text][1:]
	}
	return moves
}
