package frame

import (
	"bytes"

	"domicile/api"
)

const (
	modulus  = 65521 // of the sum at the end
	leastLen = 23    // bytes of a frame without a body
	bodyAt   = 17    // where the body begins
)

// buffer collects bytes, and their sum.
type buffer struct {
	bytes []byte
	sum   int
}

// put appends numbers, each in some bytes, the most significant one first.
func (b *buffer) put(width int, nums ...int) {
	for _, n := range nums {
		for i := width - 1; i >= 0; i-- {
			c := byte(n >> (8 * i))
			b.bytes = append(b.bytes, c)
			b.sum += int(c)
		}
	}
}

// writer writes frames into its buffer.
type writer struct{ buffer }

func (w *writer) frame(f api.Frame) {
	w.put(4, f.Src, f.Dst, f.Seq, f.Kind)
	w.put(1, len(f.Body))
	for _, n := range f.Body {
		w.put(4, n+api.MaxNumber)
	}
	w.put(4, f.Tag)
	w.put(2, w.sum%modulus)
}

// Encode returns the bytes of a well-formed frame.
func Encode(f api.Frame) []byte {
	if !Valid(f) {
		return nil
	}
	var w writer
	w.frame(f)
	return w.bytes
}

// Decode returns the well-formed frame with some bytes.
func Decode(b []byte) (api.Frame, api.Errno) {
	if len(b) < leastLen || len(b) != leastLen+4*int(b[bodyAt-1]) {
		return api.Frame{}, api.ErrFormat
	}
	f := api.Frame{Src: number(b, 0), Dst: number(b, 4), Seq: number(b, 8), Kind: number(b, 12)}
	at := bodyAt
	for range int(b[bodyAt-1]) {
		f.Body = append(f.Body, number(b, at)-api.MaxNumber)
		at += 4
	}
	f.Tag = number(b, at)
	// A frame has only these bytes, so that comparing them finds all that is not as it has to be.
	if !bytes.Equal(Encode(f), b) {
		return api.Frame{}, api.ErrFormat
	}
	return f, api.OK
}

// number returns the number in four bytes.
func number(b []byte, at int) int {
	n := 0
	for _, c := range b[at : at+4] {
		n = n<<8 | int(c)
	}
	return n
}
