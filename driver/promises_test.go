package driver_test

import (
	"math/rand"
	"slices"
	"testing"

	"domicile/api"
	"domicile/driver"
	"domicile/session"
)

// P24.2: decoding the bytes of a driver yields the driver; different drivers have different bytes.
func TestImages(t *testing.T) {
	m := maker{rand.New(rand.NewSource(242))}
	known := map[string]api.Driver{}
	for range 2000 {
		d := m.driver()
		b := driver.Encode(d)
		if got, err := driver.Decode(b); err != api.OK || !same(got, d) {
			t.Fatalf("Decode of the bytes of %v = %v, %d", d, got, err)
		}
		if other, ok := known[string(b)]; ok && !same(other, d) {
			t.Fatalf("%v and %v have the same bytes", d, other)
		}
		known[string(b)] = d
	}
}

// P24.3: bytes that are decoded are those of the driver; changed bytes do not yield the same driver.
func TestChangedBytes(t *testing.T) {
	m := maker{rand.New(rand.NewSource(243))}
	decoded := 0
	for range 150 {
		d := m.driver()
		b := driver.Encode(d)
		for i := range b {
			for range 4 {
				changed := slices.Clone(b)
				changed[i] += byte(1 + m.Intn(255))
				if i < len(b)-2 && m.chance(2) {
					changed = seal(changed[:len(b)-2])
				}
				got, err := driver.Decode(changed)
				if err == api.OK && (same(got, d) || string(refEncode(got)) != string(changed)) {
					t.Fatalf("Decode(%v) = %v", changed, got)
				}
				if err == api.OK {
					decoded++
				}
			}
		}
	}
	if decoded < 100 {
		t.Errorf("only %d changed bytes were decoded", decoded)
	}
}

// P24.4: a driver that keeps to a session type does only what it permits, whatever happens.
func TestKeeping(t *testing.T) {
	m := maker{rand.New(rand.NewSource(244))}
	ended, messages := 0, 0
	for range 2000 {
		d, s := m.pairing()
		if driver.Check(d, s) != api.OK {
			continue
		}
		p := point{}
		for range 200 {
			q := s.States[p.state]
			o := api.Op{Code: api.DrvHalt}
			if p.at < len(d.Ops) {
				o = d.Ops[p.at]
			}
			if o.Code == api.DrvHalt {
				if ended++; len(q) > 0 {
					t.Fatalf("%v ends at %v in %v", d, p, s)
				}
				break
			}
			if o.Code == api.DrvSend {
				if _, ok := session.Next(s, p.state, api.Event{Send: true, Msg: o.A}); !ok {
					t.Fatalf("%v sends at %v in %v", d, p, s)
				}
				messages++
			}
			if o.Code == api.DrvReceive && (len(q) == 0 || slices.ContainsFunc(q, func(c api.Choice) bool { return c.Send })) {
				t.Fatalf("%v receives at %v in %v", d, p, s)
			}
			l, _ := refSteps(d, s, p)
			p = l[m.Intn(len(l))]
		}
	}
	if ended < 100 || messages < 1000 {
		t.Errorf("the test covers too little: %d, %d", ended, messages)
	}
}

// P24.5: a driver that is refused comes to a wrong pair, after fewer steps than there are pairs.
func TestRefusal(t *testing.T) {
	m := maker{rand.New(rand.NewSource(245))}
	far := 0
	for range 2000 {
		d, s := m.pairing()
		steps, pairs, ok := refCheck(d, s)
		if ok != (driver.Check(d, s) == api.OK) || !ok && steps >= pairs {
			t.Fatalf("%v and %v: %d steps, %d pairs", d, s, steps, pairs)
		}
		if steps > 3 {
			far++
		}
	}
	if far < 50 {
		t.Errorf("only %d wrong pairs are far", far)
	}
}

// P24.6: session types that permit the same accept the same drivers.
func TestSessionTypes(t *testing.T) {
	m := maker{rand.New(rand.NewSource(246))}
	for range 1000 {
		d, s := m.pairing()
		want := driver.Check(d, s)
		for _, other := range []api.Session{m.copies(s), session.Least(s)} {
			if got := driver.Check(d, other); got != want {
				t.Fatalf("Check(%v, %v) = %d, but with %v %d", d, s, want, other, got)
			}
		}
	}
}

// P24.7: an instruction that only computes, put at the beginning, does not matter.
func TestShifting(t *testing.T) {
	m := maker{rand.New(rand.NewSource(247))}
	for range 1000 {
		d, s := m.pairing()
		first := []api.Op{op(api.DrvConst, 7), op(api.DrvAdd, -7)}[m.Intn(2)]
		if d.Cells > 0 && m.chance(2) {
			first = []api.Op{op(api.DrvLoad, 0), op(api.DrvStore, 0)}[m.Intn(2)]
		}
		shifted := d
		shifted.Ops = []api.Op{first}
		for _, o := range d.Ops {
			switch o.Code {
			case api.DrvJump, api.DrvZero:
				o.A++
			case api.DrvCase:
				o.B++
			}
			shifted.Ops = append(shifted.Ops, o)
		}
		if got, want := driver.Check(shifted, s), driver.Check(d, s); got != want {
			t.Fatalf("Check(%v, %v) = %d, want %d", shifted, s, got, want)
		}
	}
}

// P24.8: constants, cells, name and version do not matter.
func TestData(t *testing.T) {
	m := maker{rand.New(rand.NewSource(248))}
	for range 1000 {
		d, s := m.pairing()
		want := driver.Check(d, s)
		other := api.Driver{Name: "other", Version: d.Version / 2, Cells: 64, Ops: slices.Clone(d.Ops)}
		for i := range other.Ops {
			switch o := &other.Ops[i]; o.Code {
			case api.DrvConst, api.DrvAdd:
				o.A = m.Intn(3) - 1
			case api.DrvLoad, api.DrvStore:
				o.A = m.Intn(64)
			}
		}
		if got := driver.Check(other, s); got != want {
			t.Fatalf("Check(%v, %v) = %d, want %d", other, s, got, want)
		}
	}
}
