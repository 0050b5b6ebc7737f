package driver

import (
	"bytes"

	"domicile/api"
)

const (
	mark    = 68    // the first two bytes
	version = 1     // of the form of the bytes
	modulus = 65521 // of the sum at the end
)

// Encode returns the bytes of a well-formed driver.
func Encode(d api.Driver) []byte {
	if !Valid(d) {
		return nil
	}
	b := appendCodes([]byte{mark, mark, version}, len(d.Name))
	b = append(b, d.Name...)
	b = appendCodes(b, d.Version, d.Cells, len(d.Ops))
	for _, op := range d.Ops {
		b = appendCodes(append(b, byte(op.Code)), op.A, op.B)
	}
	sum := 0
	for _, c := range b {
		sum += int(c)
	}
	sum %= modulus
	return append(b, byte(sum/256), byte(sum%256))
}

// Decode returns the well-formed driver with some bytes.
func Decode(b []byte) (d api.Driver, err api.Errno) {
	defer func() {
		if recover() != nil {
			d, err = api.Driver{}, api.ErrFormat
		}
	}()
	r := &reader{rest: b}
	d = r.driver()
	// A driver has only these bytes, so that comparing them finds all that is not as it has to be.
	if !bytes.Equal(Encode(d), b) {
		r.fail()
	}
	return d, api.OK
}

func appendCodes(b []byte, nums ...int) []byte {
	for _, n := range nums {
		code := 2 * n
		if n < 0 {
			code = -2*n - 1
		}
		for ; code >= 128; code /= 128 {
			b = append(b, byte(code%128+128))
		}
		b = append(b, byte(code))
	}
	return b
}

// reader reads bytes; it panics if they do not suffice, or cannot be those of a driver.
type reader struct{ rest []byte }

func (r *reader) fail() { panic(api.ErrFormat) }

func (r *reader) take(n int) []byte {
	if n < 0 || n > len(r.rest) {
		r.fail()
	}
	taken := r.rest[:n]
	r.rest = r.rest[n:]
	return taken
}

func (r *reader) number() int {
	code := 0
	for shift := 0; ; shift += 7 {
		// No number of a driver has more digits; more of them could exceed an int.
		if shift > 35 {
			r.fail()
		}
		digit := int(r.take(1)[0])
		code |= digit % 128 << shift
		if digit < 128 {
			break
		}
	}
	if code%2 == 1 {
		return -(code + 1) / 2
	}
	return code / 2
}

func (r *reader) driver() api.Driver {
	r.take(3)
	d := api.Driver{Name: string(r.take(r.number()))}
	d.Version, d.Cells = r.number(), r.number()
	count := r.number()
	if count > api.MaxCode {
		r.fail()
	}
	for range count {
		code := int(r.take(1)[0])
		d.Ops = append(d.Ops, api.Op{Code: code, A: r.number(), B: r.number()})
	}
	return d
}
