package frame_test

import (
	"encoding/binary"
	"math/rand"
	"slices"

	"domicile/api"
)

func refEncode(f api.Frame) []byte {
	var b []byte
	for _, n := range []int{f.Src, f.Dst, f.Seq, f.Kind} {
		b = binary.BigEndian.AppendUint32(b, uint32(n))
	}
	b = append(b, byte(len(f.Body)))
	for _, n := range f.Body {
		b = binary.BigEndian.AppendUint32(b, uint32(n+1000000000))
	}
	return sealed(binary.BigEndian.AppendUint32(b, uint32(f.Tag)))
}

// sealed appends the sum of bytes.
func sealed(b []byte) []byte {
	sum := 0
	for _, c := range b {
		sum += int(c)
	}
	return binary.BigEndian.AppendUint16(slices.Clone(b), uint16(sum%65521))
}

// ledger remembers all numbers that were accepted.
type ledger struct{ accepted []int }

func (l *ledger) top() int { return slices.Max(append([]int{-1}, l.accepted...)) }

// accept says whether a number is accepted.
func (l *ledger) accept(seq int) bool {
	if slices.Contains(l.accepted, seq) || seq <= l.top()-16 {
		return false
	}
	l.accepted = append(l.accepted, seq)
	return true
}

// window returns the window of the ledger.
func (l *ledger) window() api.Seqs {
	w := api.Seqs{Top: l.top()}
	for i := range 16 {
		w.Seen = append(w.Seen, slices.Contains(l.accepted, w.Top-i))
	}
	return w
}

// maker makes up frames and numbers.
type maker struct{ *rand.Rand }

func (m maker) chance(n int) bool { return m.Intn(n) == 0 }

func (m maker) field() int {
	switch m.Intn(4) {
	case 0:
		return []int{0, 1, 255, 256, 65535, 65536, 1000000}[m.Intn(7)]
	case 1:
		return m.Intn(1000001)
	}
	return m.Intn(300)
}

func (m maker) frame() api.Frame {
	f := api.Frame{Src: m.field(), Dst: m.field(), Seq: m.field(), Kind: m.field(), Tag: m.Intn(2147483647)}
	n := m.Intn(6)
	if m.chance(10) {
		n = m.Intn(33)
	}
	for range n {
		f.Body = append(f.Body, m.body())
	}
	return f
}

func (m maker) body() int {
	if m.chance(3) {
		return []int{-1000000000, 1000000000, 0, -1}[m.Intn(4)]
	}
	return m.Intn(2000000001) - 1000000000
}

func (m maker) key() int { return m.Intn(2147483647) }

// change returns another well-formed frame, with one thing changed.
func (m maker) change(f api.Frame) api.Frame {
	f.Body = slices.Clone(f.Body)
	switch m.Intn(7) {
	case 0:
		f.Src = m.field()
	case 1:
		f.Dst = m.field()
	case 2:
		f.Seq = m.field()
	case 3:
		f.Kind = m.field()
	case 4:
		f.Tag = m.Intn(2147483647)
	case 5:
		if len(f.Body) < 32 {
			f.Body = append(f.Body, m.body())
		}
	case 6:
		if len(f.Body) > 0 {
			f.Body[m.Intn(len(f.Body))] = m.body()
		}
	}
	return f
}
