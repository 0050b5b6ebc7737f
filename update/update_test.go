package update_test

import (
	"fmt"
	"math"
	"math/rand"
	"slices"
	"testing"

	"domicile/api"
	"domicile/crypto"
	"domicile/update"
)

func same(a, b any) bool { return fmt.Sprintf("%+v", a) == fmt.Sprintf("%+v", b) }

// begun returns the pieces of data and the slot for them.
func begun(t *testing.T, size int, data []int) ([]api.Piece, api.Slot) {
	t.Helper()
	m, pieces, err := update.Split(7, 2, size, data)
	if err != api.OK {
		t.Fatalf("Split(%v) = %d", data, err)
	}
	s, err := update.Begin(7, 1, m)
	if err != api.OK {
		t.Fatalf("Begin(%v) = %d", m, err)
	}
	return pieces, s
}

// P31.1: the examples of the chapter.
func TestExamples(t *testing.T) {
	m, pieces, err := update.Split(7, 2, 2, []int{1, 2, 3, 4, 5})
	lists := [][]int{{1, 2}, {3, 4}, {5}}
	root := crypto.Root(lists)
	want := api.Manifest{Version: 2, Count: 3, Size: 2, Root: root, Tag: crypto.Tag(7, []int{2, 3, 2, root})}
	if err != api.OK || m != want || len(pieces) != 3 {
		t.Fatalf("Split = %v, %v, %d", m, pieces, err)
	}
	for i, p := range pieces {
		if !same(p, api.Piece{Index: i, Data: lists[i], Path: crypto.Path(lists, i)}) {
			t.Errorf("the piece %d is %v", i, p)
		}
	}
	if len(pieces[0].Path) != 2 || len(pieces[1].Path) != 2 || len(pieces[2].Path) != 2 || pieces[2].Path[0] != -1 {
		t.Errorf("the paths of %v", pieces)
	}
	if s, err := update.Begin(7, 2, m); err != api.ErrStale || !same(s, api.Slot{}) {
		t.Errorf("Begin = %v, %d", s, err)
	}
	s, err := update.Begin(7, 1, m)
	if err != api.OK || !same(s, api.Slot{Manifest: m, Pieces: make([][]int, 3)}) {
		t.Fatalf("Begin = %v, %d", s, err)
	}
	for _, i := range []int{2, 0, 2} {
		if s, err = update.Add(s, pieces[i]); err != api.OK {
			t.Errorf("Add of %d = %d", i, err)
		}
	}
	if got := update.Missing(s); !slices.Equal(got, []int{1}) {
		t.Errorf("Missing = %v", got)
	}
	if data, err := update.Join(s); err != api.ErrState || len(data) > 0 {
		t.Errorf("Join = %v, %d", data, err)
	}
	s, _ = update.Add(s, pieces[1])
	if data, err := update.Join(s); err != api.OK || !slices.Equal(data, []int{1, 2, 3, 4, 5}) || len(update.Missing(s)) > 0 {
		t.Errorf("Join = %v, %d", data, err)
	}
}

// P31.1, AE1: the errors of Split, and its limits.
func TestSplit(t *testing.T) {
	long := make([]int, 64*32+1)
	for i, test := range []struct {
		key, version, size int
		data               []int
		want               api.Errno
	}{
		{0, 1, 1, []int{1000000000}, api.OK}, {maxTag, 1000000, 32, []int{-1000000000}, api.OK}, {5, 5, 32, long[:64*32], api.OK}, {5, 5, 1, long[:64], api.OK},
		{-1, 5, 5, long[:9], api.ErrArg}, {maxTag + 1, 5, 5, long[:9], api.ErrArg}, {5, 0, 5, long[:9], api.ErrArg}, {5, 1000001, 5, long[:9], api.ErrArg}, {5, -1, 5, long[:9], api.ErrArg},
		{5, 5, 0, long[:9], api.ErrArg}, {5, 5, -1, long[:9], api.ErrArg}, {5, 5, 33, long[:9], api.ErrArg}, {5, 5, math.MinInt, long[:9], api.ErrArg}, {5, 5, math.MaxInt, long[:9], api.ErrArg},
		{5, 5, 5, nil, api.ErrArg}, {5, 5, 5, []int{0, 1000000001}, api.ErrArg}, {5, 5, 5, []int{-1000000001}, api.ErrArg}, {5, 5, 5, []int{math.MinInt}, api.ErrArg},
		{5, 5, 32, long, api.ErrLimit}, {5, 5, 1, long[:65], api.ErrLimit}, {5, 0, 1, long[:65], api.ErrArg}, {5, 5, 1, append(slices.Clone(long), math.MaxInt), api.ErrArg},
	} {
		m, pieces, err := update.Split(test.key, test.version, test.size, test.data)
		if err != test.want || err != api.OK && (m != api.Manifest{} || len(pieces) > 0) {
			t.Errorf("%d: Split = %v, %v, %d, want %d", i, m, pieces, err, test.want)
		}
	}
}

// P31.1, AE2: the errors of Begin, and their order.
func TestBegin(t *testing.T) {
	tagged := func(m api.Manifest) api.Manifest {
		m.Tag = crypto.Tag(5, []int{m.Version, m.Count, m.Size, m.Root})
		return m
	}
	good := tagged(api.Manifest{Version: 3, Count: 4, Size: 5, Root: 6})
	forged := good
	forged.Tag ^= 1
	negative, big := good, good
	negative.Tag, big.Tag = -1, maxTag+1
	for i, test := range []struct {
		key, version int
		m            api.Manifest
		want         api.Errno
	}{
		{5, 0, good, api.OK}, {5, 2, good, api.OK}, {5, 3, good, api.ErrStale}, {5, 4, good, api.ErrStale}, {5, 1000000, good, api.ErrStale},
		{5, 999999, tagged(api.Manifest{Version: 1000000, Count: 64, Size: 32, Root: maxTag}), api.OK}, {5, 0, tagged(api.Manifest{Version: 1, Count: 1, Size: 1}), api.OK},
		{-1, 0, good, api.ErrArg}, {maxTag + 1, 0, good, api.ErrArg}, {5, -1, good, api.ErrArg}, {5, 1000001, good, api.ErrArg},
		{5, 0, tagged(api.Manifest{Version: 0, Count: 1, Size: 1}), api.ErrArg}, {5, 0, tagged(api.Manifest{Version: 1000001, Count: 1, Size: 1}), api.ErrArg},
		{5, 0, tagged(api.Manifest{Version: 1, Count: 0, Size: 1}), api.ErrArg}, {5, 0, tagged(api.Manifest{Version: 1, Count: 65, Size: 1}), api.ErrArg},
		{5, 0, tagged(api.Manifest{Version: 1, Count: 1, Size: 0}), api.ErrArg}, {5, 0, tagged(api.Manifest{Version: 1, Count: 1, Size: 33}), api.ErrArg},
		{5, 0, tagged(api.Manifest{Version: 1, Count: 1, Size: 1, Root: -1}), api.ErrArg}, {5, 0, tagged(api.Manifest{Version: 1, Count: 1, Size: 1, Root: maxTag + 1}), api.ErrArg},
		{5, 0, negative, api.ErrArg}, {5, 0, big, api.ErrArg}, {5, 9, forged, api.ErrTag}, {5, 1, forged, api.ErrTag}, {6, 9, good, api.ErrTag}, {5, -1, forged, api.ErrArg},
	} {
		s, err := update.Begin(test.key, test.version, test.m)
		want := api.Slot{}
		if test.want == api.OK {
			want = api.Slot{Manifest: test.m, Pieces: make([][]int, test.m.Count)}
		}
		if err != test.want || !same(s, want) {
			t.Errorf("%d: Begin = %v, %d, want %v, %d", i, s, err, want, test.want)
		}
	}
}

// P31.1, AE3, AE4: slots that are not well-formed.
func TestSlots(t *testing.T) {
	pieces, s := begun(t, 3, []int{1, 2, 3, 4, 5, 6, 7})
	for i, test := range []struct {
		change func(*api.Slot)
		ok     bool
	}{
		{func(s *api.Slot) {}, true}, {func(s *api.Slot) { s.Pieces[1] = []int{1000000000, 0, -1000000000} }, true}, {func(s *api.Slot) { s.Pieces[2] = []int{1, 2, 3} }, true}, {func(s *api.Slot) { s.Pieces[2] = []int{} }, true},
		{func(s *api.Slot) { s.Manifest.Root = 0 }, true}, {func(s *api.Slot) { *s = api.Slot{} }, false}, {func(s *api.Slot) { s.Manifest.Version = 0 }, false}, {func(s *api.Slot) { s.Manifest.Tag = -1 }, false},
		{func(s *api.Slot) { s.Pieces = s.Pieces[:2] }, false}, {func(s *api.Slot) { s.Pieces = append(s.Pieces, nil) }, false}, {func(s *api.Slot) { s.Manifest.Count = 4 }, false},
		{func(s *api.Slot) { s.Pieces[0] = []int{1, 2} }, false}, {func(s *api.Slot) { s.Pieces[1] = []int{1, 2, 3, 4} }, false}, {func(s *api.Slot) { s.Pieces[2] = []int{1, 2, 3, 4} }, false}, {func(s *api.Slot) { s.Pieces[2] = []int{1000000001} }, false},
	} {
		changed := api.Slot{Manifest: s.Manifest, Pieces: slices.Clone(s.Pieces)}
		test.change(&changed)
		got, err := update.Add(changed, pieces[0])
		want, wantErr := refAdd(changed, pieces[0])
		if err != wantErr || !same(got, want) || test.ok == (err == api.ErrArg) {
			t.Errorf("%d: Add = %v, %d, want %v, %d", i, got, err, want, wantErr)
		}
		missing := update.Missing(changed)
		data, err := update.Join(changed)
		if len(data) > 0 || test.ok && err != api.ErrState || !test.ok && (err != api.ErrArg || len(missing) > 0) {
			t.Errorf("%d: Missing = %v, Join = %v, %d", i, missing, data, err)
		}
	}
}

// P31.1, AE3: pieces that are not fit, and pieces that are not proved.
func TestAddErrors(t *testing.T) {
	pieces, s := begun(t, 2, []int{1, 2, 3, 4, 5})
	path := pieces[1].Path
	for i, test := range []struct {
		p    api.Piece
		want api.Errno
	}{
		{api.Piece{Index: -1, Data: []int{1, 2}, Path: path}, api.ErrFormat}, {api.Piece{Index: 3, Data: []int{1, 2}, Path: path}, api.ErrFormat}, {api.Piece{Index: math.MaxInt, Data: []int{1, 2}}, api.ErrFormat}, {api.Piece{Index: math.MinInt}, api.ErrFormat},
		{api.Piece{Index: 1, Data: []int{3}, Path: path}, api.ErrFormat}, {api.Piece{Index: 1, Data: []int{3, 4, 5}, Path: path}, api.ErrFormat}, {api.Piece{Index: 1, Path: path}, api.ErrFormat}, {api.Piece{Index: 2, Path: pieces[2].Path}, api.ErrFormat},
		{api.Piece{Index: 1, Data: []int{3, 1000000001}, Path: path}, api.ErrFormat}, {api.Piece{Index: 1, Data: []int{-1000000001, 4}, Path: path}, api.ErrFormat},
		{api.Piece{Index: 1, Data: []int{3, 5}, Path: path}, api.ErrProof}, {api.Piece{Index: 0, Data: []int{3, 4}, Path: path}, api.ErrProof}, {api.Piece{Index: 1, Data: []int{3, 4}}, api.ErrProof}, {api.Piece{Index: 1, Data: []int{3, 4}, Path: path[:1]}, api.ErrProof},
		{api.Piece{Index: 1, Data: []int{3, 4}, Path: append(slices.Clone(path), -1)}, api.ErrProof}, {api.Piece{Index: 1, Data: []int{3, 4}, Path: []int{-1, path[0], path[1]}}, api.ErrProof},
		{api.Piece{Index: 2, Data: []int{5}, Path: []int{pieces[2].Path[1]}}, api.ErrProof}, {api.Piece{Index: 2, Data: []int{5}, Path: []int{-1, maxTag + 1}}, api.ErrProof}, {api.Piece{Index: 2, Data: []int{5}, Path: []int{-1, -1}}, api.ErrProof}, {api.Piece{Index: 2, Data: []int{5}, Path: []int{0, pieces[2].Path[1]}}, api.ErrProof},
		{pieces[1], api.OK}, {pieces[2], api.OK},
	} {
		got, err := update.Add(s, test.p)
		if want, _ := refAdd(s, test.p); err != test.want || !same(got, want) {
			t.Errorf("%d: Add(%v) = %v, %d, want %d", i, test.p, got, err, test.want)
		}
	}
	// A manifest can be such that only the form of a path refuses a piece.
	root, _ := crypto.Climb([]int{5}, 1, []int{-1})
	forged := api.Slot{Manifest: api.Manifest{Version: 1, Count: 2, Size: 1, Root: root}, Pieces: make([][]int, 2)}
	if _, err := update.Add(forged, api.Piece{Index: 1, Data: []int{5}, Path: []int{-1}}); err != api.ErrProof {
		t.Errorf("Add with -1 in the place of a digest = %d", err)
	}
	root, _ = crypto.Climb([]int{5}, 2, []int{8, 9})
	forged = api.Slot{Manifest: api.Manifest{Version: 1, Count: 3, Size: 1, Root: root}, Pieces: make([][]int, 3)}
	if _, err := update.Add(forged, api.Piece{Index: 2, Data: []int{5}, Path: []int{8, 9}}); err != api.ErrProof {
		t.Errorf("Add with a digest in the place of -1 = %d", err)
	}
	root, _ = crypto.Climb([]int{5}, 0, []int{8})
	forged = api.Slot{Manifest: api.Manifest{Version: 1, Count: 1, Size: 1, Root: root}, Pieces: make([][]int, 1)}
	if _, err := update.Add(forged, api.Piece{Data: []int{5}, Path: []int{8}}); err != api.ErrProof {
		t.Errorf("Add with a path that is too long = %d", err)
	}
	root, _ = crypto.Climb([]int{5}, 0, nil)
	forged = api.Slot{Manifest: api.Manifest{Version: 1, Count: 2, Size: 1, Root: root}, Pieces: make([][]int, 2)}
	if _, err := update.Add(forged, api.Piece{Data: []int{5}}); err != api.ErrProof {
		t.Errorf("Add with a path that is too short = %d", err)
	}
}

// P31.1, AE3: a piece comes in the place of other data; what is refused leaves it there.
func TestAddInPlaceOfOtherData(t *testing.T) {
	pieces, s := begun(t, 3, []int{1, 2, 3, 4, 5, 6, 7, 8})
	s.Pieces = [][]int{{9, 9, 9}, {1000000000, 0, -1000000000}, {7, 8, 9}}
	place := func(i int, data []int) api.Slot {
		l := slices.Clone(s.Pieces)
		l[i] = data
		return api.Slot{Manifest: s.Manifest, Pieces: l}
	}
	forged := pieces[1]
	forged.Data = []int{4, 5, 7}
	for i, test := range []struct {
		s    api.Slot
		p    api.Piece
		want api.Slot
		err  api.Errno
	}{
		{s, pieces[0], place(0, []int{1, 2, 3}), api.OK}, {s, pieces[1], place(1, []int{4, 5, 6}), api.OK}, {s, pieces[2], place(2, []int{7, 8}), api.OK},
		{place(2, []int{7}), pieces[2], place(2, []int{7, 8}), api.OK}, {place(1, []int{4, 5, 6}), pieces[1], place(1, []int{4, 5, 6}), api.OK}, {place(1, nil), pieces[1], place(1, []int{4, 5, 6}), api.OK}, {place(0, nil), pieces[2], api.Slot{Manifest: s.Manifest, Pieces: [][]int{nil, s.Pieces[1], {7, 8}}}, api.OK},
		{s, forged, s, api.ErrProof}, {s, api.Piece{Index: 1, Data: []int{4, 5}, Path: pieces[1].Path}, s, api.ErrFormat}, {place(1, []int{1}), pieces[0], place(1, []int{1}), api.ErrArg},
	} {
		before := fmt.Sprint(test.s, test.p)
		got, err := update.Add(test.s, test.p)
		if err != test.err || !same(got, test.want) {
			t.Errorf("%d: Add(%v, %v) = %v, %d, want %v, %d", i, test.s, test.p, got, err, test.want, test.err)
		}
		for _, data := range got.Pieces {
			for k := range data {
				data[k] = 77
			}
		}
		if after := fmt.Sprint(test.s, test.p); after != before {
			t.Errorf("%d: the arguments are %s, before %s", i, after, before)
		}
	}
}

// P31.1: random data, against the definitions.
func TestRandom(t *testing.T) {
	m := maker{rand.New(rand.NewSource(1))}
	for range 300 {
		key, version, size := m.key(), 1+m.Intn(1000000), 1+m.Intn(32)
		data := m.data(size)
		got, pieces, err := update.Split(key, version, size, data)
		lists := refPieces(size, data)
		want := api.Manifest{Version: version, Count: len(lists), Size: size, Root: crypto.Root(lists)}
		want.Tag = crypto.Tag(key, []int{version, len(lists), size, want.Root})
		if err != api.OK || got != want || len(pieces) != len(lists) {
			t.Fatalf("Split(%d, %d, %d, %v) = %v, %v, %d", key, version, size, data, got, pieces, err)
		}
		s, _ := update.Begin(key, 0, got)
		s = m.occupied(s)
		for i := range pieces {
			if !same(pieces[i], api.Piece{Index: i, Data: lists[i], Path: crypto.Path(lists, i)}) {
				t.Fatalf("the piece %d is %v", i, pieces[i])
			}
			if forms := refForms(i, len(lists)); len(forms) != len(pieces[i].Path) || slices.IndexFunc(pieces[i].Path, func(x int) bool { return x == -1 }) != slices.Index(forms, true) {
				t.Fatalf("the path of the piece %d of %d is %v", i, len(lists), pieces[i].Path)
			}
			changed := pieces[m.Intn(len(pieces))]
			switch m.Intn(4) {
			case 0:
				changed.Index = m.Intn(len(lists))
			case 1:
				changed.Data = twin(changed.Data)
			case 2:
				changed.Path = pieces[m.Intn(len(pieces))].Path
			}
			next, err := update.Add(s, changed)
			wantSlot, wantErr := refAdd(s, changed)
			if err != wantErr || !same(next, wantSlot) {
				t.Fatalf("Add(%v, %v) = %v, %d, want %v, %d", s, changed, next, err, wantSlot, wantErr)
			}
			s = next
		}
	}
}

// P3: equal arguments yield equal results, arguments stay as they are, and results share no memory.
func TestIndependence(t *testing.T) {
	m := maker{rand.New(rand.NewSource(2))}
	for range 100 {
		size := 1 + m.Intn(5)
		data := m.data(size)
		before := fmt.Sprint(data)
		pieces, s := begun(t, size, data)
		text := fmt.Sprint(pieces, s)
		full := s
		for _, p := range pieces {
			full, _ = update.Add(full, p)
		}
		joined, _ := update.Join(full)
		again, _ := update.Add(full, pieces[0])
		for i := range again.Pieces {
			again.Pieces[i][0] = 77
		}
		failed, _ := update.Add(full, api.Piece{Index: -1})
		for i := range failed.Pieces {
			failed.Pieces[i][0] = 77
		}
		for i := range joined {
			joined[i] = 78
		}
		if got, err := update.Join(full); err != api.OK || !same(got, data) || fmt.Sprint(data) != before {
			t.Fatalf("%s: %v, %d", before, got, err)
		}
		if fmt.Sprint(pieces, s) != text {
			t.Fatalf("%s: %v, %v", text, pieces, s)
		}
		for i := range pieces {
			pieces[i].Data[0] = 79
			for j := range pieces[i].Path {
				pieces[i].Path[j] = 79
			}
		}
		if got, err := update.Join(full); err != api.OK || !same(got, data) || fmt.Sprint(data) != before {
			t.Fatalf("%s: %v, %d", before, got, err)
		}
	}
}
