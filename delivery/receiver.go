package delivery

import (
	"slices"

	"domicile/api"
	"domicile/frame"
)

// receiver is a receiver that can be changed.
type receiver struct{ api.Receiver }

// copied returns a receiver that shares no memory with one.
func copied(r api.Receiver) *receiver {
	r.Seqs.Seen = slices.Clone(r.Seqs.Seen)
	r.Values = slices.Clone(r.Values)
	return &receiver{r}
}

// receive executes an order if it can, and reports whether the order is confirmed.
func (r *receiver) receive(o api.Order) (bool, api.Errno) {
	if !isOrder(o) || !r.isValid() || o.Var >= len(r.Values) {
		return false, api.ErrArg
	}
	window, err := frame.Accept(r.Seqs, o.Seq)
	switch {
	case err == api.ErrReplay && o.Seq > r.Seqs.Top-api.MaxWindow:
		// It was executed before; its confirmation may have been lost.
		return true, api.OK
	case err != api.OK:
		return false, err
	case o.Fence < r.Fence:
		return false, api.ErrFence
	}
	r.Seqs, r.Fence = window, o.Fence
	r.Values[o.Var] = o.Value
	r.Done++
	return true, api.OK
}

// isValid reports whether all but the window is well-formed, which accepting finds out.
func (r *receiver) isValid() bool {
	return within(r.Fence, api.MaxNumber) && areValues(r.Values) && within(r.Done, maxSeq+1)
}
