package frame_test

import (
	"bytes"
	"fmt"
	"math"
	"math/rand"
	"slices"
	"testing"

	"domicile/api"
	"domicile/crypto"
	"domicile/frame"
)

func same(a, b any) bool { return fmt.Sprintf("%+v", a) == fmt.Sprintf("%+v", b) }

// seqs returns a window in which the elements with the given indices are true.
func seqs(top int, trues ...int) api.Seqs {
	w := api.Seqs{Top: top, Seen: make([]bool, 16)}
	for _, i := range trues {
		w.Seen[i] = true
	}
	return w
}

// P28.1: the examples of the chapter.
func TestExamples(t *testing.T) {
	want := []byte{0, 0, 0, 1, 0, 0, 0, 2, 0, 0, 0, 3, 0, 0, 0, 4, 0, 0, 0, 0, 0, 0, 10}
	if got := frame.Encode(api.Frame{Src: 1, Dst: 2, Seq: 3, Kind: 4}); !bytes.Equal(got, want) {
		t.Errorf("Encode = %v", got)
	}
	w := frame.Fresh()
	if !same(w, seqs(-1)) {
		t.Errorf("Fresh = %v", w)
	}
	for i, step := range []struct {
		seq  int
		want api.Seqs
		err  api.Errno
	}{
		{0, seqs(0, 0), api.OK}, {20, seqs(20, 0), api.OK}, {5, seqs(20, 0, 15), api.OK}, {4, seqs(20, 0, 15), api.ErrReplay}, {20, seqs(20, 0, 15), api.ErrReplay},
		{5, seqs(20, 0, 15), api.ErrReplay}, {21, seqs(21, 0, 1), api.OK}, {7, seqs(21, 0, 1, 14), api.OK}, {36, seqs(36, 0, 15), api.OK}, {52, seqs(52, 0), api.OK}, {1000000, seqs(1000000, 0), api.OK},
		{-1, seqs(1000000, 0), api.ErrArg}, {1000001, seqs(1000000, 0), api.ErrArg}, {math.MinInt, seqs(1000000, 0), api.ErrArg}, {0, seqs(1000000, 0), api.ErrReplay}, {999985, seqs(1000000, 0, 15), api.OK},
	} {
		got, err := frame.Accept(w, step.seq)
		if err != step.err || !same(got, step.want) {
			t.Errorf("%d: Accept(%v, %d) = %v, %d, want %v, %d", i, w, step.seq, got, err, step.want, step.err)
		}
		w = got
	}
}

// P28.1: which windows are well-formed; the others are returned as they are.
func TestWindows(t *testing.T) {
	for i, test := range []struct {
		w  api.Seqs
		ok bool
	}{
		{seqs(-1), true}, {seqs(0, 0), true}, {seqs(3, 0, 1, 2, 3), true}, {seqs(15, 0, 15), true}, {seqs(16, 0, 15), true}, {seqs(1000000, 0, 7), true},
		{api.Seqs{}, false}, {api.Seqs{Top: -1}, false}, {api.Seqs{Top: -1, Seen: make([]bool, 15)}, false}, {api.Seqs{Top: -1, Seen: make([]bool, 17)}, false},
		{seqs(-1, 0), false}, {seqs(-1, 15), false}, {seqs(-2), false}, {seqs(-2, 0), false}, {seqs(math.MinInt, 0), false}, {seqs(1000001, 0), false}, {seqs(math.MaxInt, 0), false},
		{seqs(0), false}, {seqs(9, 1), false}, {seqs(0, 0, 1), false}, {seqs(3, 0, 4), false}, {seqs(14, 0, 15), false},
	} {
		got, err := frame.Accept(test.w, 500)
		if test.ok == (err == api.ErrArg) {
			t.Errorf("%d: Accept(%v) = %d", i, test.w, err)
		}
		if err != api.OK && !same(got, test.w) {
			t.Errorf("%d: Accept(%v) = %v, %d", i, test.w, got, err)
		}
	}
}

// P28.1, AB1, AB2: which frames are well-formed, and the order of the errors.
func TestValid(t *testing.T) {
	good := api.Frame{Src: 1000000, Dst: 1000000, Seq: 1000000, Kind: 1000000, Body: slices.Repeat([]int{1000000000, -1000000000}, 16), Tag: 2147483646}
	for i, change := range []func(*api.Frame){
		func(f *api.Frame) {}, func(f *api.Frame) { *f = api.Frame{} },
		func(f *api.Frame) { f.Src = -1 }, func(f *api.Frame) { f.Src = 1000001 }, func(f *api.Frame) { f.Dst = -1 }, func(f *api.Frame) { f.Dst = 1000001 },
		func(f *api.Frame) { f.Seq = -1 }, func(f *api.Frame) { f.Seq = 1000001 }, func(f *api.Frame) { f.Kind = -1 }, func(f *api.Frame) { f.Kind = 1000001 },
		func(f *api.Frame) { f.Body = append(slices.Clone(f.Body), 0) }, func(f *api.Frame) { f.Body = []int{1000000001} }, func(f *api.Frame) { f.Body = []int{0, -1000000001} },
	} {
		f := good
		change(&f)
		want := i < 2
		sealed, err := frame.Seal(5, f)
		if got := frame.Valid(f); got != want || (len(frame.Encode(f)) > 0) != want || (err == api.OK) != want || !want && (err != api.ErrArg || !same(sealed, api.Frame{}) || frame.Open(5, f) != api.ErrArg) {
			t.Errorf("%d: Valid(%v) = %v, Seal %d, Open %d", i, f, got, err, frame.Open(5, f))
		}
	}
	// A wrong tag does not matter for sealing.
	for _, tag := range []int{-1, 2147483647, math.MinInt} {
		f := good
		f.Tag = tag
		if frame.Valid(f) || len(frame.Encode(f)) > 0 || frame.Open(0, f) != api.ErrArg {
			t.Errorf("a frame with the tag %d", tag)
		}
		if sealed, err := frame.Seal(0, f); err != api.OK || frame.Open(0, sealed) != api.OK {
			t.Errorf("Seal of a frame with the tag %d: %d", tag, err)
		}
	}
	for _, key := range []int{-1, 2147483647, math.MaxInt, math.MinInt} {
		if sealed, err := frame.Seal(key, good); err != api.ErrArg || !same(sealed, api.Frame{}) || frame.Open(key, good) != api.ErrArg {
			t.Errorf("the key %d: %d", key, err)
		}
	}
	if _, err := frame.Seal(2147483646, good); err != api.OK {
		t.Errorf("the greatest key: %d", err)
	}
}

// P28.1, P28.3: the tag is that of the contents.
func TestTags(t *testing.T) {
	m := maker{rand.New(rand.NewSource(1))}
	for range 1000 {
		f, key := m.frame(), m.key()
		want := f
		want.Tag = crypto.Tag(key, append([]int{f.Src, f.Dst, f.Seq, f.Kind, len(f.Body)}, f.Body...))
		got, err := frame.Seal(key, f)
		if err != api.OK || !same(got, want) {
			t.Fatalf("Seal(%d, %v) = %v, %d", key, f, got, err)
		}
		if f.Tag != want.Tag && frame.Open(key, f) != api.ErrTag {
			t.Fatalf("Open(%d, %v) = %d", key, f, frame.Open(key, f))
		}
	}
}

// P28.1: bytes that no frame has.
func TestDecodeErrors(t *testing.T) {
	field := func(at int, n byte) []byte {
		b := make([]byte, 21)
		b[at] = n
		return sealed(b)
	}
	body := make([]byte, 25)
	body[16] = 1
	big := slices.Clone(body)
	copy(big[17:], []byte{119, 53, 148, 1})
	long := make([]byte, 21+4*33)
	long[16] = 33
	for i, b := range [][]byte{
		nil, make([]byte, 22), field(1, 16), field(5, 16), field(9, 16), field(13, 16), field(0, 1), field(16, 1), field(17, 128), sealed(append(make([]byte, 21), 0)),
		append(sealed(body), 0), sealed(big), sealed(long), sealed([]byte{0, 0, 0, 0, 0, 0, 0, 0, 0, 0, 0, 0, 0, 0, 0, 0, 0, 127, 255, 255, 255}),
	} {
		if f, err := frame.Decode(b); err != api.ErrFormat || !same(f, api.Frame{}) {
			t.Errorf("%d: Decode(%v) = %v, %d", i, b, f, err)
		}
	}
	if f, err := frame.Decode(sealed(body)); err != api.OK || !same(f, api.Frame{Body: []int{-1000000000}}) {
		t.Errorf("Decode = %v, %d", f, err)
	}
	big[20] = 0
	if f, err := frame.Decode(sealed(big)); err != api.OK || !same(f, api.Frame{Body: []int{1000000000}}) {
		t.Errorf("Decode = %v, %d", f, err)
	}
}

// P3: equal arguments yield equal results, arguments stay as they are, and results share no memory.
func TestIndependence(t *testing.T) {
	m := maker{rand.New(rand.NewSource(2))}
	for range 500 {
		f, key := m.frame(), m.key()
		before := fmt.Sprint(f)
		first, _ := frame.Seal(key, f)
		text := fmt.Sprint(first)
		b := frame.Encode(f)
		back, _ := frame.Decode(b)
		for i := range first.Body {
			first.Body[i], back.Body[i] = 7, 7
		}
		again, _ := frame.Seal(key, f)
		back, _ = frame.Decode(b)
		if fmt.Sprint(again) != text || fmt.Sprint(f) != before || !same(back, f) || !bytes.Equal(frame.Encode(f), refEncode(f)) {
			t.Fatalf("%s: %s and %v", before, text, again)
		}
		w := (&ledger{accepted: []int{3, 7, 12}}).window()
		kept := fmt.Sprint(w)
		for _, seq := range []int{3, 5, 13, -1} {
			got, _ := frame.Accept(w, seq)
			for i := range got.Seen {
				got.Seen[i] = true
			}
		}
		if fmt.Sprint(w) != kept || !same(frame.Fresh(), seqs(-1)) {
			t.Fatalf("the window %s is %v now", kept, w)
		}
	}
}

// FuzzDecode searches bytes that are decoded, but are not those of the frame.
func FuzzDecode(f *testing.F) {
	m := maker{rand.New(rand.NewSource(3))}
	for range 20 {
		f.Add(frame.Encode(m.frame()))
	}
	f.Fuzz(func(t *testing.T, b []byte) {
		for _, b := range [][]byte{b, sealed(b)} {
			if got, err := frame.Decode(b); err == api.OK && (!frame.Valid(got) || !bytes.Equal(refEncode(got), b)) {
				t.Errorf("Decode(%v) = %v", b, got)
			}
		}
	})
}
