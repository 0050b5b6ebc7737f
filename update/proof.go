package update

import (
	"iter"

	"domicile/api"
	"domicile/crypto"
)

// within reports whether all numbers are from least to most.
func within(least, most int, nums ...int) bool {
	for _, n := range nums {
		if n < least || n > most {
			return false
		}
	}
	return true
}

// areDigests reports whether numbers can be keys, roots, tags or other digests.
func areDigests(nums ...int) bool { return within(0, maxTag, nums...) }

func isData(data []int) bool { return within(-api.MaxNumber, api.MaxNumber, data...) }

func isManifest(m api.Manifest) bool {
	return within(1, maxVersion, m.Version) && within(1, maxCount, m.Count) && within(1, api.MaxBody, m.Size) && areDigests(m.Root, m.Tag)
}

// isFit reports whether data can be that of a piece of a well-formed manifest.
func isFit(m api.Manifest, index int, data []int) bool {
	least := m.Size
	if index == m.Count-1 {
		least = 1
	}
	return within(0, m.Count-1, index) && within(least, m.Size, len(data)) && isData(data)
}

func isSlot(s api.Slot) bool {
	if !isManifest(s.Manifest) || len(s.Pieces) != s.Manifest.Count {
		return false
	}
	for i, data := range s.Pieces {
		if len(data) > 0 && !isFit(s.Manifest, i, data) {
			return false
		}
	}
	return true
}

// isProved reports whether a fit piece is proved for a manifest.
func isProved(m api.Manifest, p api.Piece) bool {
	rest := p.Path
	for alone := range form(p.Index, m.Count) {
		if len(rest) == 0 || alone != (rest[0] == -1) || !alone && !areDigests(rest[0]) {
			return false
		}
		rest = rest[1:]
	}
	root, _ := crypto.Climb(p.Data, p.Index, p.Path)
	return len(rest) == 0 && root == m.Root
}

// form yields for each element of a path whether it has to be -1, because there the index has no other one beside it.
func form(index, count int) iter.Seq[bool] {
	return func(yield func(bool) bool) {
		for ; count > 1; count = (count + 1) / 2 {
			if !yield(index == count-1 && count%2 == 1) {
				return
			}
			index /= 2
		}
	}
}
