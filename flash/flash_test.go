package flash_test

import (
	"bytes"
	"fmt"
	"math"
	"math/rand"
	"slices"
	"testing"

	"domicile/api"
	"domicile/flash"
)

func same(a, b any) bool { return fmt.Sprintf("%+v", a) == fmt.Sprintf("%+v", b) }

// padded returns bytes, and 255 up to a size.
func padded(size int, b ...byte) []byte {
	return append(b, bytes.Repeat([]byte{255}, size-len(b))...)
}

// P36.1: the examples of the chapter.
func TestExamples(t *testing.T) {
	f := flash.Erased(16)
	if !same(f, api.Flash{Pages: [2][]byte{padded(16), padded(16)}}) {
		t.Fatalf("Erased = %v", f)
	}
	f, err := flash.Append(f, []byte{5, 6})
	if want := padded(16, 1, 254, 254, 2, 253, 24, 5, 6); err != api.OK || !bytes.Equal(f.Pages[0], want) || !bytes.Equal(f.Pages[1], padded(16)) {
		t.Fatalf("Append = %v, %d", f, err)
	}
	f, err = flash.Append(f, nil)
	if want := padded(16, 1, 254, 254, 2, 253, 24, 5, 6, 0, 255, 7); err != api.OK || !bytes.Equal(f.Pages[0], want) || !bytes.Equal(f.Pages[1], padded(16)) {
		t.Fatalf("Append = %v, %d", f, err)
	}
	if g, err := flash.Append(f, []byte{1, 2, 3}); err != api.ErrFull || !same(g, api.Flash{}) {
		t.Errorf("Append = %v, %d", g, err)
	}
	if got := flash.Records(f); !same(got, [][]byte{{5, 6}, {}}) {
		t.Errorf("Records = %v", got)
	}
	g, err := flash.Compact(f, [][]byte{{1, 2, 3}})
	if want := padded(16, 2, 253, 253, 3, 252, 21, 1, 2, 3); err != api.OK || !bytes.Equal(g.Pages[0], f.Pages[0]) || !bytes.Equal(g.Pages[1], want) || !same(flash.Records(g), [][]byte{{1, 2, 3}}) {
		t.Errorf("Compact = %v, %d", g, err)
	}
}

// P36.1: sizes, and memories that are not well-formed.
func TestSizes(t *testing.T) {
	for _, size := range []int{16, 17, 4095, 4096} {
		if f := flash.Erased(size); len(f.Pages[0]) != size || !same(f, api.Flash{Pages: [2][]byte{padded(size), padded(size)}}) {
			t.Errorf("Erased(%d) = %v", size, f)
		}
	}
	for _, size := range []int{15, 0, -1, 4097, math.MaxInt, math.MinInt} {
		if f := flash.Erased(size); !same(f, api.Flash{}) {
			t.Errorf("Erased(%d) = %v", size, f)
		}
	}
	good := flash.Erased(16)
	valid := padded(16, 1, 254, 254, 0, 255, 7)
	for i, f := range []api.Flash{
		{}, {Pages: [2][]byte{valid, nil}}, {Pages: [2][]byte{valid, padded(17)}}, {Pages: [2][]byte{valid[:15], valid[:15]}}, {Pages: [2][]byte{padded(4097, valid...), padded(4097)}}, {Pages: [2][]byte{nil, valid}}, {Pages: [2][]byte{valid[:1], valid[:1]}},
	} {
		g, err := flash.Append(f, nil)
		h, compacted := flash.Compact(f, nil)
		if err != api.ErrArg || compacted != api.ErrArg || !same(g, api.Flash{}) || !same(h, api.Flash{}) || len(flash.Records(f)) > 0 || len(flash.Steps(f, good))+len(flash.Steps(good, f)) > 0 {
			t.Errorf("%d: %v is not well-formed", i, f)
		}
	}
	if len(flash.Steps(good, flash.Erased(17))) > 0 || len(flash.Steps(good, good)) > 0 {
		t.Error("Steps of other sizes, or of equal memories")
	}
}

// P36.1: records of 200 bytes, more than these, and what fits.
func TestRoom(t *testing.T) {
	long := make([]byte, 201)
	f := flash.Erased(209)
	g, err := flash.Append(f, long[:200])
	if err != api.OK || !same(flash.Records(g), [][]byte{long[:200]}) {
		t.Errorf("Append = %d", err)
	}
	if _, err := flash.Append(f, long); err != api.ErrArg {
		t.Errorf("Append of 201 bytes = %d", err)
	}
	if _, err := flash.Compact(f, [][]byte{long[:200], long[:200], long}); err != api.ErrArg {
		t.Errorf("Compact of 201 bytes = %d", err)
	}
	if h, err := flash.Append(g, nil); err != api.OK || !bytes.Equal(h.Pages[1], f.Pages[1]) {
		t.Errorf("Append = %v, %d", h, err)
	}
	if h, err := flash.Append(g, []byte{1}); err != api.ErrFull || !same(h, api.Flash{}) {
		t.Errorf("Append = %v, %d", h, err)
	}
	for _, size := range []int{16, 4096} {
		if g, err := flash.Append(flash.Erased(size), []byte{3}); err != api.OK || !same(flash.Records(g), [][]byte{{3}}) || len(flash.Steps(flash.Erased(size), g)) != 7 {
			t.Errorf("Append to %d bytes = %d", size, err)
		}
	}
	if _, err := flash.Compact(flash.Erased(16), [][]byte{make([]byte, 10)}); err != api.OK {
		t.Errorf("Compact of 10 bytes = %d", err)
	}
	if _, err := flash.Compact(flash.Erased(16), [][]byte{make([]byte, 11)}); err != api.ErrFull {
		t.Errorf("Compact of 11 bytes = %d", err)
	}
	// A frame whose length is 201 is none, although it is complete.
	page := padded(300, 1, 254, 254, 201, 54, 7)
	copy(page[6:], make([]byte, 201))
	if l := flash.Records(api.Flash{Pages: [2][]byte{page, padded(300)}}); len(l) > 0 {
		t.Errorf("Records = %v", l)
	}
}

// P36.1: which page is the current one.
func TestCurrent(t *testing.T) {
	for i, test := range []struct {
		a, b []byte
		want byte // the record of the current page
	}{
		{[]byte{1, 254, 254}, []byte{2, 253, 253}, 2}, {[]byte{2, 253, 253}, []byte{1, 254, 254}, 1}, {[]byte{5, 250, 250}, []byte{5, 250, 250}, 1},
		{[]byte{250, 5, 5}, []byte{1, 254, 254}, 2}, {[]byte{1, 254, 254}, []byte{250, 5, 5}, 1}, {[]byte{1, 254, 254}, []byte{126, 129, 129}, 2}, {[]byte{1, 254, 254}, []byte{127, 128, 128}, 1},
		{[]byte{1, 254, 255}, []byte{250, 5, 5}, 2}, {[]byte{1, 255, 254}, []byte{250, 5, 5}, 2}, {[]byte{9, 246, 246}, []byte{251, 4, 4}, 1}, {[]byte{9, 246, 246}, []byte{255, 0, 0}, 1}, {[]byte{0, 255, 255}, []byte{8, 247, 247}, 2},
		{[]byte{0, 255, 255}, []byte{251, 4, 4}, 0},
	} {
		one, two := []byte{1, 254, 8, 1}, []byte{1, 254, 9, 2}
		f := api.Flash{Pages: [2][]byte{padded(20, append(test.a, one...)...), padded(20, append(test.b, two...)...)}}
		l := flash.Records(f)
		if test.want == 0 && len(l) > 0 || test.want > 0 && !same(l, [][]byte{{test.want}}) {
			t.Errorf("%d: Records(%v) = %v", i, f, l)
		}
	}
}

// P36.1: random memories, against the definitions.
func TestRandom(t *testing.T) {
	m := maker{rand.New(rand.NewSource(1))}
	count := map[string]int{}
	for range 10000 {
		f, record, l := m.memory(), m.record(), m.records()
		var records [][]byte
		if refMemory(f) && refCurrent(f) >= 0 {
			records, _ = refRecords(f.Pages[refCurrent(f)])
		}
		if got := flash.Records(f); !same(got, records) {
			t.Fatalf("Records(%v) = %v, want %v", f, got, records)
		}
		got, err := flash.Append(f, record)
		want, wantErr := refAppend(f, record)
		if err != wantErr || !same(got, want) {
			t.Fatalf("Append(%v, %v) = %v, %d, want %v, %d", f, record, got, err, want, wantErr)
		}
		count[fmt.Sprint("Append", err)]++
		got, err = flash.Compact(f, l)
		want, wantErr = refCompact(f, l)
		if err != wantErr || !same(got, want) {
			t.Fatalf("Compact(%v, %v) = %v, %d, want %v, %d", f, l, got, err, want, wantErr)
		}
		count[fmt.Sprint("Compact", err)]++
		if len(f.Pages[0]) > 30 {
			continue
		}
		other := m.memory()
		if err == api.OK && m.chance(2) {
			other = got
		}
		if got, want := flash.Steps(f, other), refSteps(f, other); !same(got, want) {
			t.Fatalf("Steps(%v, %v) = %v, want %v", f, other, got, want)
		}
	}
	for _, name := range []string{"Append0", "Append1", "Append30", "Compact0", "Compact1", "Compact30"} {
		if count[name] < 100 {
			t.Errorf("the test covers too little: %v", count)
		}
	}
}

// P3: equal arguments yield equal results, arguments stay as they are, and results share no memory.
func TestIndependence(t *testing.T) {
	m := maker{rand.New(rand.NewSource(2))}
	scratch := func(f api.Flash) {
		for _, page := range f.Pages {
			for i := range page {
				page[i] = 99
			}
		}
	}
	for range 300 {
		f, record, l := m.memory(), m.record(), m.records()
		before := fmt.Sprint(f, record, l)
		run := func() string {
			a, errA := flash.Append(f, record)
			b, errB := flash.Compact(f, l)
			records, steps := flash.Records(f), flash.Steps(f, b)
			text := fmt.Sprint(a, errA, b, errB, records, steps)
			scratch(a)
			scratch(b)
			for i, step := range steps {
				if i > 0 && i < 5 {
					kept := fmt.Sprint(steps[i-1])
					scratch(step)
					if fmt.Sprint(steps[i-1]) != kept {
						t.Fatal("steps share memory")
					}
				}
			}
			for _, r := range records {
				for i := range r {
					r[i] = 99
				}
			}
			return text
		}
		first := run()
		if run() != first || fmt.Sprint(f, record, l) != before {
			t.Fatalf("%s changed", before)
		}
	}
	if slices.Equal(flash.Erased(16).Pages[0], nil) {
		t.Fatal("Erased yields nothing")
	}
}
