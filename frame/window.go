package frame

import (
	"slices"

	"domicile/api"
)

// seen says which of the numbers up to the greatest one were accepted.
type seen [api.MaxWindow]bool

// Fresh returns the window before any number was accepted.
func Fresh() api.Seqs { return api.Seqs{Top: -1, Seen: make([]bool, api.MaxWindow)} }

// Accept returns the window after a number was accepted.
func Accept(w api.Seqs, seq int) (api.Seqs, api.Errno) {
	same := api.Seqs{Top: w.Top, Seen: slices.Clone(w.Seen)}
	if !isWindow(w) || seq < 0 || seq > maxField {
		return same, api.ErrArg
	}
	if seq > w.Top {
		later := shifted(w, seq-w.Top)
		return api.Seqs{Top: seq, Seen: later[:]}, api.OK
	}
	if w.Top-seq >= api.MaxWindow || w.Seen[w.Top-seq] {
		return same, api.ErrReplay
	}
	same.Seen[w.Top-seq] = true
	return same, api.OK
}

func isWindow(w api.Seqs) bool {
	if len(w.Seen) != api.MaxWindow || w.Top < -1 || w.Top > maxField {
		return false
	}
	if w.Top == -1 {
		return seen(w.Seen) == seen{}
	}
	// There is no number below 0 that could have been accepted.
	return w.Seen[0] && !slices.Contains(w.Seen[min(w.Top+1, api.MaxWindow):], true)
}

// shifted says which numbers were accepted up to one that is some numbers greater, and is accepted as well.
func shifted(w api.Seqs, by int) seen {
	later := seen{true}
	for i := by; i < api.MaxWindow; i++ {
		later[i] = w.Seen[i-by]
	}
	return later
}
