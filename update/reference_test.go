package update_test

import (
	"math/rand"
	"slices"

	"domicile/api"
	"domicile/crypto"
)

const maxTag = 2147483646

// refPieces cuts data number by number.
func refPieces(size int, data []int) [][]int {
	var l [][]int
	for i, n := range data {
		if i%size == 0 {
			l = append(l, nil)
		}
		l[len(l)-1] = append(l[len(l)-1], n)
	}
	return l
}

// refForms says which elements of a path are -1, row by row.
func refForms(index, count int) []bool {
	var l []bool
	row := count
	for k := 0; row > 1; k++ {
		l = append(l, row%2 == 1 && index>>k == row-1)
		row = row/2 + row%2
	}
	return l
}

func refManifest(m api.Manifest) bool {
	return m.Version >= 1 && m.Version <= 1000000 && m.Count >= 1 && m.Count <= 64 && m.Size >= 1 && m.Size <= 32 && m.Root >= 0 && m.Root <= maxTag && m.Tag >= 0 && m.Tag <= maxTag
}

func refFit(m api.Manifest, index int, data []int) bool {
	for _, n := range data {
		if n < -1000000000 || n > 1000000000 {
			return false
		}
	}
	if index < 0 || index >= m.Count || len(data) == 0 || len(data) > m.Size {
		return false
	}
	return index == m.Count-1 || len(data) == m.Size
}

func refSlot(s api.Slot) bool {
	if !refManifest(s.Manifest) || len(s.Pieces) != s.Manifest.Count {
		return false
	}
	for i, data := range s.Pieces {
		if len(data) > 0 && !refFit(s.Manifest, i, data) {
			return false
		}
	}
	return true
}

// refAdd follows the chapter.
func refAdd(s api.Slot, p api.Piece) (api.Slot, api.Errno) {
	if !refSlot(s) {
		return s, api.ErrArg
	}
	if !refFit(s.Manifest, p.Index, p.Data) {
		return s, api.ErrFormat
	}
	forms := refForms(p.Index, s.Manifest.Count)
	if len(forms) != len(p.Path) {
		return s, api.ErrProof
	}
	for k, alone := range forms {
		if x := p.Path[k]; alone && x != -1 || !alone && (x < 0 || x > maxTag) {
			return s, api.ErrProof
		}
	}
	if root, _ := crypto.Climb(p.Data, p.Index, p.Path); root != s.Manifest.Root {
		return s, api.ErrProof
	}
	pieces := slices.Clone(s.Pieces)
	pieces[p.Index] = p.Data
	return api.Slot{Manifest: s.Manifest, Pieces: pieces}, api.OK
}

// maker makes up data.
type maker struct{ *rand.Rand }

func (m maker) chance(n int) bool { return m.Intn(n) == 0 }

func (m maker) number() int {
	if m.chance(3) {
		return []int{-1000000000, 1000000000, 0, 1}[m.Intn(4)]
	}
	return m.Intn(2000000001) - 1000000000
}

// data returns numbers that make at most 64 pieces of the size.
func (m maker) data(size int) []int {
	n := 1 + m.Intn(size*(1+m.Intn(12)))
	if m.chance(10) {
		n = 1 + m.Intn(64*size)
	}
	var l []int
	for range n {
		l = append(l, m.number())
	}
	return l
}

func (m maker) key() int { return m.Intn(maxTag + 1) }

// occupied returns a well-formed slot that often has other data than that of its pieces.
func (m maker) occupied(s api.Slot) api.Slot {
	s.Pieces = slices.Clone(s.Pieces)
	for i := range s.Pieces {
		if !m.chance(3) {
			continue
		}
		n := s.Manifest.Size
		if i == s.Manifest.Count-1 {
			n = 1 + m.Intn(n)
		}
		s.Pieces[i] = nil
		for range n {
			s.Pieces[i] = append(s.Pieces[i], m.number())
		}
	}
	return s
}

// twin returns other data with the same digest, if it finds any.
func twin(data []int) []int {
	n := len(data)
	other := slices.Clone(data)
	if n > 1 && data[n-2] < 1000000000 && data[n-1] > -1000000000+1000003 {
		other[n-2]++
		other[n-1] -= 1000003
	}
	return other
}
