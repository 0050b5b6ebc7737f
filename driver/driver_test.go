package driver_test

import (
	"bytes"
	"fmt"
	"math"
	"math/rand"
	"slices"
	"strings"
	"testing"

	"domicile/api"
	"domicile/driver"
)

func same(a, b any) bool { return fmt.Sprintf("%+v", a) == fmt.Sprintf("%+v", b) }

func op(code int, nums ...int) api.Op {
	o := api.Op{Code: code}
	if len(nums) > 0 {
		o.A = nums[0]
	}
	if len(nums) > 1 {
		o.B = nums[1]
	}
	return o
}

func program(ops ...api.Op) api.Driver { return api.Driver{Cells: 3, Ops: ops} }

func answering() api.Session {
	return api.Session{States: [][]api.Choice{{{Msg: 1, Next: 1}}, {{Send: true, Msg: 2}, {Send: true, Msg: 3, Next: 2}}, nil}}
}

// P24.1: the examples of the chapter, and more of the kind.
func TestExamples(t *testing.T) {
	receive, halt := op(api.DrvReceive), op(api.DrvHalt)
	send := func(msg int) api.Op { return op(api.DrvSend, msg) }
	for i, test := range []struct {
		d    api.Driver
		want api.Errno
	}{
		{program(receive, send(2), op(api.DrvJump, 0)), api.OK},
		{program(receive, send(3), halt), api.OK},
		{program(receive, send(3)), api.OK},
		{program(send(2)), api.ErrProtocol},
		{program(receive, halt), api.ErrProtocol},
		{program(receive, send(3), receive), api.ErrProtocol},
		{program(), api.ErrProtocol},
		{program(halt), api.ErrProtocol},
		{program(receive), api.ErrProtocol},
		{program(receive, receive), api.ErrProtocol},
		{program(receive, send(2), receive, send(3)), api.OK},
		{program(receive, op(api.DrvCase, 1, 3), halt, send(3)), api.OK},
		{program(receive, op(api.DrvCase, 2, 3), halt, send(3)), api.ErrProtocol},
		{program(receive, op(api.DrvCase, 1, 4), op(api.DrvCase, 1, 3), halt, send(3)), api.OK},
		{program(receive, op(api.DrvCase, 1, 3), op(api.DrvCase, 1, 4), halt, send(3)), api.ErrProtocol},
		{program(receive, op(api.DrvZero, 4), send(2), op(api.DrvJump, 0), send(3)), api.OK},
		{program(receive, op(api.DrvZero, 4), send(2), op(api.DrvJump, 0), send(4)), api.ErrProtocol},
		{program(op(api.DrvJump, 0), send(9)), api.OK},
		{program(op(api.DrvConst, 1), op(api.DrvZero, 3), op(api.DrvJump, 0)), api.ErrProtocol},
	} {
		if got := driver.Check(test.d, answering()); got != test.want {
			t.Errorf("%d: Check(%v) = %d, want %d", i, test.d, got, test.want)
		}
	}
	// A state that receives and sends is wrong for receiving, and one that only receives for sending.
	both := api.Session{States: [][]api.Choice{{{Msg: 1}, {Send: true, Msg: 1}}}}
	if driver.Check(program(receive, op(api.DrvJump, 0)), both) != api.ErrProtocol || driver.Check(program(send(1), op(api.DrvJump, 0)), both) != api.OK {
		t.Error("a state with both directions")
	}
}

// P24.1, X1: every field at its limits.
func TestValid(t *testing.T) {
	long := api.Driver{Ops: slices.Repeat([]api.Op{op(api.DrvHalt)}, 400)}
	longer := api.Driver{Ops: slices.Repeat([]api.Op{op(api.DrvHalt)}, 401)}
	receive, halt := op(api.DrvReceive), op(api.DrvHalt)
	good := []api.Driver{
		{}, long, {Name: strings.Repeat("\xff", 16)}, {Version: 1000000000, Cells: 64, Ops: []api.Op{op(api.DrvLoad, 63), op(api.DrvStore, 0)}},
		program(op(api.DrvConst, 1000000000), op(api.DrvAdd, -1000000000), op(api.DrvJump, 3)),
		program(op(api.DrvZero, 1), op(api.DrvSend, 63)),
		program(receive, op(api.DrvCase, 63, 2)), program(receive, op(api.DrvCase, 0, 0), op(api.DrvCase, 0, 3), halt),
	}
	bad := []api.Driver{
		longer, {Name: strings.Repeat("x", 17)}, {Version: 1000000001}, {Version: -1}, {Cells: 65}, {Cells: -1},
		program(op(api.DrvConst, 1000000001)), program(op(api.DrvConst, -1000000001)), program(op(api.DrvAdd, math.MinInt)), program(op(api.DrvAdd, 0, 1)),
		program(op(api.DrvLoad, 3)), program(op(api.DrvLoad, -1)), program(op(api.DrvStore, 3)), program(op(api.DrvStore, 0, 1)), {Ops: []api.Op{op(api.DrvLoad, 0)}},
		program(op(api.DrvJump, 2)), program(op(api.DrvJump, -1)), program(op(api.DrvZero, 2)), program(op(api.DrvJump, 0, 1)), program(op(api.DrvZero, 0, -1)),
		program(op(api.DrvSend, 64)), program(op(api.DrvSend, -1)), program(op(api.DrvSend, 1, 1)),
		program(op(api.DrvReceive, 1)), program(op(api.DrvReceive, 0, 1)), program(op(api.DrvHalt, 1)), program(op(api.DrvHalt, 0, 1)),
		program(op(api.DrvCase, 1, 1)), program(halt, op(api.DrvCase, 1, 2)), program(receive, halt, op(api.DrvCase, 1, 0)),
		program(receive, op(api.DrvCase, 64, 0)), program(receive, op(api.DrvCase, -1, 0)), program(receive, op(api.DrvCase, 1, 1)), program(receive, op(api.DrvCase, 1, 3)), program(receive, op(api.DrvCase, 1, -1)),
		program(op(api.DrvJump, 2), receive, op(api.DrvCase, 1, 0)), program(op(0)), program(op(11)), program(op(-1)), program(op(257)),
	}
	for i, d := range good {
		if !driver.Valid(d) || len(driver.Encode(d)) == 0 {
			t.Errorf("%d: Valid(%v) = false", i, d)
		}
	}
	for i, d := range bad {
		if driver.Valid(d) || len(driver.Encode(d)) > 0 || driver.Check(d, answering()) != api.ErrArg {
			t.Errorf("%d: Valid(%v) = true", i, d)
		}
	}
	for _, s := range []api.Session{{}, {States: [][]api.Choice{{{Next: 1}}}}} {
		if got := driver.Check(program(op(api.DrvSend, 2)), s); got != api.ErrArg {
			t.Errorf("Check with %v = %d", s, got)
		}
	}
}

// P24.1: random drivers, against the definitions.
func TestRandom(t *testing.T) {
	m := maker{rand.New(rand.NewSource(1))}
	keeps, refused := 0, 0
	for range 3000 {
		d, s := m.pairing()
		if !refValid(d) || !driver.Valid(d) {
			t.Fatalf("%v is not well-formed", d)
		}
		_, _, ok := refCheck(d, s)
		if got := driver.Check(d, s); (got == api.OK) != ok || got != api.OK && got != api.ErrProtocol {
			t.Fatalf("Check(%v, %v) = %d, want %v", d, s, got, ok)
		}
		if ok {
			keeps++
		} else {
			refused++
		}
		damaged := api.Driver{Name: d.Name, Version: d.Version, Cells: d.Cells, Ops: slices.Clone(d.Ops)}
		if len(damaged.Ops) > 0 {
			o := &damaged.Ops[m.Intn(len(damaged.Ops))]
			*[]*int{&o.Code, &o.A, &o.B}[m.Intn(3)] += m.Intn(9) - 4
		}
		if got := driver.Valid(damaged); got != refValid(damaged) {
			t.Fatalf("Valid(%v) = %v", damaged, got)
		}
	}
	if keeps < 500 || refused < 500 {
		t.Errorf("the test covers too little: %d, %d", keeps, refused)
	}
}

// P24.1, X2: the bytes, against the definition, and numbers with many digits.
func TestBytes(t *testing.T) {
	m := maker{rand.New(rand.NewSource(2))}
	for range 1000 {
		d := m.driver()
		if got := driver.Encode(d); !bytes.Equal(got, refEncode(d)) {
			t.Fatalf("Encode(%v) = %v", d, got)
		}
	}
	d := program(op(api.DrvConst, 64), op(api.DrvConst, -64), op(api.DrvAdd, -65))
	d.Name, d.Version = "ab", 1000000000
	want := seal([]byte{68, 68, 1, 4, 'a', 'b', 128, 168, 214, 185, 7, 6, 6, 1, 128, 1, 0, 1, 127, 0, 4, 129, 1, 0})
	if got := driver.Encode(d); !bytes.Equal(got, want) {
		t.Errorf("Encode = %v, want %v", got, want)
	}
	// The sum is a remainder only for many bytes.
	big := api.Driver{Ops: slices.Repeat([]api.Op{op(api.DrvConst, 1000000000)}, 400)}
	if got := driver.Encode(big); !bytes.Equal(got, refEncode(big)) {
		t.Error("Encode of 400 instructions")
	}
	if got, err := driver.Decode(refEncode(big)); err != api.OK || !same(got, big) {
		t.Errorf("Decode of 400 instructions = %d", err)
	}
}

// P24.1, X2: bytes that no driver has.
func TestDecodeErrors(t *testing.T) {
	good := driver.Encode(program(op(api.DrvConst, 5)))
	body := good[:len(good)-2]
	long := slices.Repeat([]byte{255}, 60)
	for i, b := range [][]byte{
		nil, {68}, {68, 68, 1}, body, good[:len(good)-1], append(slices.Clone(good), 0), seal(append(slices.Clone(body), 0)),
		seal([]byte{68, 68, 2, 0, 0, 0, 0}), seal([]byte{68, 67, 1, 0, 0, 0, 0}), seal([]byte{67, 68, 1, 0, 0, 0, 0}),
		seal([]byte{68, 68, 1, 1, 0, 0, 0}),                                // a name of -1 bytes
		seal(append([]byte{68, 68, 1, 34}, make([]byte, 20)...)),           // a name of 17 bytes
		seal([]byte{68, 68, 1, 128, 0, 0, 0, 0}),                           // a last digit 0
		seal([]byte{68, 68, 1, 0, 0, 0, 1}),                                // -1 instructions
		seal([]byte{68, 68, 1, 0, 1, 0, 0}),                                // the version -1
		seal([]byte{68, 68, 1, 0, 0, 130, 1, 0}),                           // 65 cells
		seal([]byte{68, 68, 1, 0, 0, 0, 2, 11, 0, 0}),                      // an unknown instruction
		seal(append([]byte{68, 68, 1, 0, 0, 0, 162, 6}, long...)),          // 401 instructions
		seal(append([]byte{68, 68, 1, 0}, long...)),                        // digits without an end
		seal(append([]byte{68, 68, 1, 0}, append(long, 1, 0, 0, 0, 0)...)), // a number beyond 64 bits
		{68, 68, 1, 0, 0, 0, 0, 0, 138}, {68, 68, 1, 0, 0, 0, 0, 1, 137},
	} {
		if d, err := driver.Decode(b); err != api.ErrFormat || !same(d, api.Driver{}) {
			t.Errorf("%d: Decode(%v) = %v, %d", i, b, d, err)
		}
	}
	if d, err := driver.Decode([]byte{68, 68, 1, 0, 0, 0, 0, 0, 137}); err != api.OK || !same(d, api.Driver{}) {
		t.Errorf("Decode of the zero driver = %v, %d", d, err)
	}
}

// P3: equal arguments yield equal results, arguments stay as they are, and results share no memory.
func TestIndependence(t *testing.T) {
	m := maker{rand.New(rand.NewSource(3))}
	for range 300 {
		d, s := m.pairing()
		text := fmt.Sprint(d, s)
		b := driver.Encode(d)
		kept := slices.Clone(b)
		back, _ := driver.Decode(b)
		for i := range back.Ops {
			back.Ops[i].A = 99
		}
		driver.Check(d, s)
		again, _ := driver.Decode(b)
		for i := range b {
			b[i] = 1
		}
		if fmt.Sprint(d, s) != text || !same(again, d) || !bytes.Equal(driver.Encode(d), kept) {
			t.Fatalf("%s changed", text)
		}
	}
}

// FuzzDecode searches bytes that are decoded, but are not those of the driver.
func FuzzDecode(f *testing.F) {
	m := maker{rand.New(rand.NewSource(4))}
	for range 20 {
		f.Add(driver.Encode(m.driver()))
	}
	f.Fuzz(func(t *testing.T, b []byte) {
		if d, err := driver.Decode(b); err == api.OK && !bytes.Equal(refEncode(d), b) {
			t.Errorf("Decode(%v) = %v", b, d)
		}
		if d, err := driver.Decode(seal(b)); err == api.OK && !bytes.Equal(refEncode(d), seal(b)) {
			t.Errorf("Decode(%v) = %v", seal(b), d)
		}
	})
}
