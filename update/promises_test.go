package update_test

import (
	"math/rand"
	"slices"
	"testing"

	"domicile/api"
	"domicile/crypto"
	"domicile/update"
)

// P31.2: in any order, and any number of times, the pieces are the data, whatever was in their places.
func TestTransfer(t *testing.T) {
	m := maker{rand.New(rand.NewSource(312))}
	for range 300 {
		size := 1 + m.Intn(32)
		data := m.data(size)
		pieces, s := begun(t, size, data)
		s = m.occupied(s)
		order := append(m.Perm(len(pieces)), m.Intn(len(pieces)), m.Intn(len(pieces)))
		m.Shuffle(len(order), func(i, j int) { order[i], order[j] = order[j], order[i] })
		for _, i := range order {
			next, err := update.Add(s, pieces[i])
			if err != api.OK {
				t.Fatalf("Add of %v = %d", pieces[i], err)
			}
			s = next
		}
		if got, err := update.Join(s); err != api.OK || !slices.Equal(got, data) {
			t.Fatalf("Join = %v, %d, want %v", got, err, data)
		}
	}
}

// collide says whether two different lists have the same digest.
func collide(lists [][]int) bool {
	known := map[int][]int{}
	for _, l := range lists {
		h := crypto.Sum(l)
		if other, ok := known[h]; ok && !slices.Equal(other, l) {
			return true
		}
		known[h] = l
	}
	return false
}

// treeLists returns the lists whose digests are computed for the tree of pieces.
func treeLists(l [][]int) [][]int {
	var lists [][]int
	for i, list := range l {
		_, climbed := crypto.Climb(list, i, crypto.Path(l, i))
		lists = append(lists, climbed...)
	}
	return lists
}

// P31.3, P31.7: other data, or another index, is accepted only if two lists have the same digest.
func TestForgedPieces(t *testing.T) {
	m := maker{rand.New(rand.NewSource(313))}
	refused, forged := 0, 0
	for range 2000 {
		size := 1 + m.Intn(5)
		data := m.data(size)
		lists := refPieces(size, data)
		pieces, s := begun(t, size, data)
		p := pieces[m.Intn(len(pieces))]
		p.Data = slices.Clone(p.Data)
		switch m.Intn(4) {
		case 0:
			p.Data[m.Intn(len(p.Data))] = m.number()
		case 1:
			p.Data = twin(p.Data)
		case 2:
			p.Index = m.Intn(len(pieces))
		case 3:
			p.Index = m.Intn(len(pieces))
			p.Path = pieces[p.Index].Path
		}
		if slices.Equal(p.Data, lists[p.Index]) {
			continue
		}
		if _, err := update.Add(s, p); err != api.OK {
			refused++
			continue
		}
		forged++
		_, climbed := crypto.Climb(p.Data, p.Index, p.Path)
		if !collide(append(climbed, treeLists(lists)...)) {
			t.Fatalf("%v is accepted in the place of %v", p, lists[p.Index])
		}
	}
	if refused < 500 || forged < 100 {
		t.Errorf("the test covers too little: %d, %d", refused, forged)
	}
}

// P31.4: a manifest with one number changed, or under another key, is refused.
func TestForgedManifests(t *testing.T) {
	m := maker{rand.New(rand.NewSource(314))}
	for range 2000 {
		key := m.key()
		good, _, _ := update.Split(key, 1+m.Intn(1000), 5, m.data(5))
		changed := good
		field := []*int{&changed.Version, &changed.Count, &changed.Size, &changed.Root, &changed.Tag}[m.Intn(5)]
		before := *field
		*field = 1 + m.Intn(32)
		if *field != before {
			if s, err := update.Begin(key, 0, changed); err != api.ErrTag {
				t.Fatalf("Begin(%d, %v) = %v, %d", key, changed, s, err)
			}
		}
		if other := m.key(); other != key {
			if s, err := update.Begin(other, 0, good); err != api.ErrTag {
				t.Fatalf("Begin(%d, %v) = %v, %d", other, good, s, err)
			}
		}
	}
}

// P31.5: only newer versions begin.
func TestVersions(t *testing.T) {
	m := maker{rand.New(rand.NewSource(315))}
	version := 0
	for range 200 {
		next := 1 + m.Intn(300)
		manifest, _, _ := update.Split(5, next, 3, []int{1, 2})
		_, err := update.Begin(5, version, manifest)
		if (err == api.OK) != (next > version) || err != api.OK && err != api.ErrStale {
			t.Fatalf("Begin with %d after %d = %d", next, version, err)
		}
		if err == api.OK {
			version = next
		}
	}
}

// P31.6: adding makes at most this one piece not missing, and keeps all others.
func TestInterruptions(t *testing.T) {
	m := maker{rand.New(rand.NewSource(316))}
	added := 0
	for range 500 {
		size := 1 + m.Intn(4)
		pieces, s := begun(t, size, m.data(size))
		if m.chance(2) {
			s = m.occupied(s)
		}
		for range 2 * len(pieces) {
			p := pieces[m.Intn(len(pieces))]
			if m.chance(3) {
				p.Index = m.Intn(len(pieces))
			}
			next, err := update.Add(s, p)
			for i := range s.Pieces {
				want := s.Pieces[i]
				if err == api.OK && i == p.Index {
					want = p.Data
				}
				if !slices.Equal(next.Pieces[i], want) {
					t.Fatalf("Add(%v, %v) = %v, %d", s, p, next, err)
				}
			}
			want := slices.DeleteFunc(update.Missing(s), func(i int) bool { return err == api.OK && i == p.Index })
			if !slices.Equal(update.Missing(next), want) || !same(next.Manifest, s.Manifest) {
				t.Fatalf("Missing(%v) = %v, want %v", next, update.Missing(next), want)
			}
			if len(want) < len(update.Missing(s)) {
				added++
			}
			s = next
		}
	}
	if added < 1000 {
		t.Errorf("only %d pieces were added", added)
	}
}
