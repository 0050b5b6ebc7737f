package hub

import (
	"bytes"

	"domicile/api"
)

const maxShift = 35 // of the last digit of a number that an entry can have

// source yields the bytes of an entry.
type source interface {
	next() (byte, bool)
}

// rester is a source that can yield all that is left at once.
type rester interface {
	rest() []byte
}

// buffer is a source of the bytes in it.
type buffer struct{ left []byte }

func (b *buffer) next() (byte, bool) {
	if len(b.left) == 0 {
		return 0, false
	}
	c := b.left[0]
	b.left = b.left[1:]
	return c, true
}

func (b *buffer) rest() []byte { return b.left }

// bytesOf returns the bytes of an entry.
func bytesOf(e api.Entry) []byte {
	b := appendCodes(nil, e.Hub, e.Seq, e.Time, e.Kind, len(e.Nums))
	b = appendCodes(b, e.Nums...)
	b = appendCodes(b, len(e.Text))
	return append(b, e.Text...)
}

// entryOf returns the entry with some bytes, if there is one. It need not be one that a journal can have: a hub that got the greatest Seq by merging makes entries with greater ones.
func entryOf(b []byte) (api.Entry, bool) {
	var s source = &buffer{b}
	e := api.Entry{}
	count, length := 0, 0
	for _, field := range []*int{&e.Hub, &e.Seq, &e.Time, &e.Kind, &count} {
		*field = numberIn(s)
	}
	// Each number has at least one byte.
	if !within(count, 0, len(b)) {
		return api.Entry{}, false
	}
	for range count {
		e.Nums = append(e.Nums, numberIn(s))
	}
	length = numberIn(s)
	if r, ok := s.(rester); ok {
		e.Text = string(r.rest())
	}
	// An entry has only these bytes, so that comparing them finds all that is not as it has to be.
	if length != len(e.Text) || !bytes.Equal(bytesOf(e), b) {
		return api.Entry{}, false
	}
	return e, true
}

func appendCodes(b []byte, nums ...int) []byte {
	for _, n := range nums {
		code := 2 * n
		if n < 0 {
			code = -2*n - 1
		}
		for ; code >= 128; code /= 128 {
			b = append(b, byte(code%128+128))
		}
		b = append(b, byte(code))
	}
	return b
}

// numberIn reads a number; what it returns for bytes that are no code has other bytes.
func numberIn(s source) int {
	code := 0
	for shift := 0; shift <= maxShift; shift += 7 {
		c, ok := s.next()
		if !ok {
			break
		}
		code |= int(c%128) << shift
		if c < 128 {
			break
		}
	}
	if code%2 == 1 {
		return -(code + 1) / 2
	}
	return code / 2
}
