package belief

import (
	"slices"

	"domicile/api"
)

const (
	settled    = -1 // the Var of a settled value
	maxFlying  = 8
	maxRecords = 20
)

// belief is a belief that can be changed.
type belief struct{ api.Belief }

func (b *belief) isValid() bool {
	if len(b.flying()) > maxFlying || len(b.Flying) > maxRecords || !slices.ContainsFunc(b.Flying, isSettled) {
		return false
	}
	last := api.Order{Seq: -1}
	for _, r := range b.Flying {
		if !within(r.Seq, -1, api.MaxTime) || !within(r.Fence, 0, api.MaxTime) || !within(r.Value, 0, api.MaxValues-1) || r.Var < settled {
			return false
		}
		if isSettled(r) {
			continue
		}
		if r.Seq <= last.Seq || r.Fence < last.Fence {
			return false
		}
		last = r
	}
	return slices.Equal(b.Values, valuesOf(b.Flying...))
}

func (b *belief) flying() []api.Order {
	return those(b.Flying, func(r api.Order) bool { return !isSettled(r) })
}

// become gives the belief new records.
func (b *belief) become(records ...api.Order) {
	b.Flying, b.Values = records, valuesOf(records...)
}

func (b *belief) send(o api.Order) api.Errno {
	isOrder := within(o.Seq, 0, api.MaxTime) && within(o.Fence, 0, api.MaxTime) && within(o.Var, 0, api.MaxTime) && within(o.Value, 0, api.MaxValues-1)
	if !isOrder || slices.ContainsFunc(b.Flying, func(r api.Order) bool { return o.Seq <= r.Seq }) {
		return api.ErrArg
	}
	if slices.ContainsFunc(b.Flying, func(r api.Order) bool { return o.Fence < r.Fence }) {
		return api.ErrFence
	}
	if len(b.flying()) == maxFlying || len(b.Flying) == maxRecords {
		return api.ErrLimit
	}
	b.become(append(slices.Clone(b.Flying), o)...)
	return api.OK
}

func (b *belief) confirm(seq int) api.Errno {
	at := slices.IndexFunc(b.Flying, func(r api.Order) bool { return !isSettled(r) && r.Seq == seq })
	if at < 0 {
		return api.ErrNone
	}
	o := b.Flying[at]
	// What was settled before the order was sent has been replaced by it.
	before := those(b.Flying[:at], func(r api.Order) bool { return !isSettled(r) })
	survivors := those(slices.Concat(before, b.Flying[at+1:]), func(r api.Order) bool {
		return r.Seq > o.Seq-api.MaxWindow && r.Fence >= o.Fence
	})
	o.Var = settled
	b.become(append(survivors, o)...)
	return api.OK
}

func (b *belief) report(value, top int) api.Errno {
	if !within(top, -1, api.MaxTime) {
		return api.ErrArg
	}
	later := func(r api.Order) bool { return r.Seq > top }
	if !slices.Contains(b.Values, value) || slices.ContainsFunc(those(b.Flying, isSettled), later) {
		return api.ErrState
	}
	reported := api.Order{Seq: top, Var: settled, Value: value}
	for _, r := range b.Flying {
		if !later(r) {
			reported.Fence = max(reported.Fence, r.Fence)
		}
	}
	b.become(append([]api.Order{reported}, those(b.flying(), later)...)...)
	return api.OK
}

func isSettled(r api.Order) bool { return r.Var == settled }

func within(n, least, most int) bool { return least <= n && n <= most }

// those returns the elements that fit.
func those[T any](list []T, fits func(T) bool) []T {
	var l []T
	for _, element := range list {
		if fits(element) {
			l = append(l, element)
		}
	}
	return l
}

// valuesOf returns the different values of records, in increasing order.
func valuesOf(records ...api.Order) []int {
	var values []int
	for _, r := range records {
		values = append(values, r.Value)
	}
	slices.Sort(values)
	return slices.Compact(values)
}
