package frame_test

import (
	"bytes"
	"math/rand"
	"slices"
	"testing"

	"domicile/api"
	"domicile/crypto"
	"domicile/frame"
)

// P28.2: what was sealed under a key is opened under it; only the tag changes.
func TestSealing(t *testing.T) {
	m := maker{rand.New(rand.NewSource(282))}
	for range 1000 {
		f, key := m.frame(), m.key()
		sealed, err := frame.Seal(key, f)
		if err != api.OK || frame.Open(key, sealed) != api.OK {
			t.Fatalf("Seal(%d, %v) = %v, %d", key, f, sealed, err)
		}
		sealed.Tag = f.Tag
		if !same(sealed, f) {
			t.Fatalf("%v was sealed as %v", f, sealed)
		}
	}
}

func tagged(key int, f api.Frame) []int {
	contents := append([]int{f.Src, f.Dst, f.Seq, f.Kind, len(f.Body)}, f.Body...)
	return append([]int{key, len(contents)}, contents...)
}

// P28.3: a changed frame, or another key, is refused, unless two lists have the same digest.
func TestForging(t *testing.T) {
	m := maker{rand.New(rand.NewSource(283))}
	refused, collisions := 0, 0
	for range 3000 {
		f, key := m.frame(), m.key()
		sealed, _ := frame.Seal(key, f)
		forged, other := m.change(sealed), key
		if m.chance(4) {
			other = m.key()
		}
		if n := len(sealed.Body); n > 1 && m.chance(4) && sealed.Body[n-2] >= 0 && sealed.Body[n-2] < 999999999 && sealed.Body[n-1] > 1000003 {
			// The digest is weak: these two bodies have the same one.
			forged, other = sealed, key
			forged.Body = slices.Clone(sealed.Body)
			forged.Body[n-2]++
			forged.Body[n-1] -= 1000003
		}
		if other == key && same(forged, sealed) {
			continue
		}
		if frame.Open(other, forged) == api.ErrTag {
			refused++
			continue
		}
		collisions++
		a, b := tagged(key, sealed), tagged(other, forged)
		if slices.Equal(a, b) || crypto.Sum(a) != crypto.Sum(b) {
			t.Fatalf("%v under %d is opened, and %v under %d was sealed", forged, other, sealed, key)
		}
	}
	if refused < 2000 || collisions < 10 {
		t.Errorf("the test covers too little: %d, %d", refused, collisions)
	}
}

// P28.4: bytes and frames belong to each other.
func TestBytes(t *testing.T) {
	m := maker{rand.New(rand.NewSource(284))}
	for range 1000 {
		f := m.frame()
		b := frame.Encode(f)
		if !bytes.Equal(b, refEncode(f)) || len(b) != 23+4*len(f.Body) {
			t.Fatalf("Encode(%v) = %v", f, b)
		}
		if got, err := frame.Decode(b); err != api.OK || !same(got, f) {
			t.Fatalf("Decode(%v) = %v, %d, want %v", b, got, err, f)
		}
	}
}

// P28.5: with one other byte, and with less or more bytes, nothing is decoded.
func TestDamage(t *testing.T) {
	m := maker{rand.New(rand.NewSource(285))}
	for range 100 {
		b := frame.Encode(m.frame())
		for i := range b {
			damaged := slices.Clone(b)
			damaged[i] += byte(1 + m.Intn(255))
			if f, err := frame.Decode(damaged); err != api.ErrFormat || !same(f, api.Frame{}) {
				t.Fatalf("Decode(%v) = %v, %d", damaged, f, err)
			}
			if f, err := frame.Decode(b[:i]); err != api.ErrFormat || !same(f, api.Frame{}) {
				t.Fatalf("Decode(%v) = %v, %d", b[:i], f, err)
			}
			if f, err := frame.Decode(append(slices.Clone(b), b[:i+1]...)); err != api.ErrFormat || !same(f, api.Frame{}) {
				t.Fatalf("Decode of %v and more = %v, %d", b, f, err)
			}
		}
	}
}

// P28.6, P28.7: each number is accepted at most once, and refused only with a reason.
func TestOnce(t *testing.T) {
	m := maker{rand.New(rand.NewSource(286))}
	accepted, refused := 0, 0
	for range 500 {
		w, l := frame.Fresh(), ledger{}
		near := m.Intn(999900)
		for range 60 {
			seq := near + m.Intn(40)
			if m.chance(20) {
				near = m.Intn(999900)
			}
			want := l.accept(seq)
			next, err := frame.Accept(w, seq)
			if (err == api.OK) != want || err != api.OK && err != api.ErrReplay {
				t.Fatalf("Accept(%v, %d) = %d after %v", w, seq, err, l.accepted)
			}
			if w = next; !same(w, l.window()) {
				t.Fatalf("%v after %v", w, l.accepted)
			}
			if want {
				accepted++
			} else {
				refused++
			}
		}
	}
	if accepted < 2000 || refused < 2000 {
		t.Errorf("the test covers too little: %d, %d", accepted, refused)
	}
}

// P28.8: numbers that are at most 15 apart are all accepted in any order.
func TestOrder(t *testing.T) {
	m := maker{rand.New(rand.NewSource(288))}
	for range 500 {
		w, first := frame.Fresh(), m.Intn(1000)
		for _, i := range m.Perm(16) {
			next, err := frame.Accept(w, first+i)
			if err != api.OK {
				t.Fatalf("Accept(%v, %d) = %d", w, first+i, err)
			}
			w = next
		}
		if w.Top != first+15 || slices.Contains(w.Seen, false) {
			t.Fatalf("%v after 16 numbers from %d", w, first)
		}
	}
}
