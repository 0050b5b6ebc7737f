package flash_test

import (
	"math/rand"
	"slices"
	"testing"

	"domicile/api"
	"domicile/flash"
)

// P36.2: after Append there is one more record; after Compact there are the given ones.
func TestRecords(t *testing.T) {
	m := maker{rand.New(rand.NewSource(362))}
	for range 3000 {
		f, record, l := m.memory(), m.record(), m.records()
		if next, err := flash.Append(f, record); err == api.OK && !same(flash.Records(next), append(flash.Records(f), record)) {
			t.Fatalf("Append(%v, %v) = %v", f, record, next)
		}
		if next, err := flash.Compact(f, l); err == api.OK && !same(flash.Records(next), l) {
			t.Fatalf("Compact(%v, %v) = %v", f, l, next)
		}
	}
}

// P36.3: after each step the records are those before or those after, and the operation can be done again.
func TestPower(t *testing.T) {
	m := maker{rand.New(rand.NewSource(363))}
	old, new := 0, 0
	for range 300 {
		f := flash.Erased(16 + m.Intn(50))
		for range 12 {
			before := flash.Records(f)
			operate := func(f api.Flash) (api.Flash, api.Errno) { return flash.Append(f, nil) }
			if record := m.record(); m.chance(3) {
				operate = func(f api.Flash) (api.Flash, api.Errno) {
					return flash.Compact(f, [][]byte{record, {7}})
				}
			} else {
				operate = func(f api.Flash) (api.Flash, api.Errno) { return flash.Append(f, record) }
			}
			next, err := operate(f)
			if err != api.OK {
				f, _ = flash.Compact(f, nil)
				continue
			}
			after := flash.Records(next)
			steps := flash.Steps(f, next)
			for _, step := range steps {
				got := flash.Records(step)
				if !same(got, before) && !same(got, after) {
					t.Fatalf("from %v to %v: %v has %v", f, next, step, got)
				}
				if same(got, before) {
					old++
					again, err := operate(step)
					if err != api.OK || !same(flash.Records(again), after) {
						t.Fatalf("from %v to %v: %v yields %v, %d", f, next, step, again, err)
					}
				} else {
					new++
				}
			}
			f = next
			if len(steps) > 0 && m.chance(2) {
				f = steps[m.Intn(len(steps))]
			}
		}
	}
	if old < 5000 || new < 300 {
		t.Errorf("the test covers too little: %d, %d", old, new)
	}
}

// P36.4: with a clean rest and enough room, Append turns bits off only.
func TestProgramming(t *testing.T) {
	m := maker{rand.New(rand.NewSource(364))}
	found := 0
	for range 5000 {
		f, record := m.memory(), m.record()
		if !refMemory(f) || refCurrent(f) < 0 || len(record) > 200 {
			continue
		}
		c := refCurrent(f)
		_, rest := refRecords(f.Pages[c])
		if slices.ContainsFunc(f.Pages[c][rest:], func(b byte) bool { return b != 255 }) || rest+3+len(record) > len(f.Pages[c]) {
			continue
		}
		found++
		next, err := flash.Append(f, record)
		if err != api.OK || !slices.Equal(next.Pages[1-c], f.Pages[1-c]) {
			t.Fatalf("Append(%v, %v) = %v, %d", f, record, next, err)
		}
		for i, b := range next.Pages[c] {
			if b&^f.Pages[c][i] != 0 {
				t.Fatalf("Append(%v, %v) = %v turns bits on", f, record, next)
			}
		}
	}
	if found < 500 {
		t.Errorf("only %d memories", found)
	}
}

// P36.5: steps change one byte at a time, and lead from the first memory to the second one.
func TestSteps(t *testing.T) {
	m := maker{rand.New(rand.NewSource(365))}
	for range 500 {
		f := m.memory()
		g, err := flash.Append(f, m.record())
		if err != api.OK {
			g, err = flash.Compact(f, nil)
		}
		if err != api.OK {
			continue
		}
		steps := flash.Steps(f, g)
		now := f
		for _, step := range steps {
			changed := 0
			for p := range 2 {
				for i, b := range step.Pages[p] {
					if b != now.Pages[p][i] {
						changed++
						// A bit is turned on only by erasing the byte.
						if b&^now.Pages[p][i] != 0 && b != 255 {
							t.Fatalf("from %v to %v without erasing", now, step)
						}
					}
				}
			}
			if changed != 1 {
				t.Fatalf("from %v to %v: %d bytes", now, step, changed)
			}
			now = step
		}
		if !same(now, g) {
			t.Fatalf("from %v to %v: the last step is %v", f, g, now)
		}
	}
}

// P36.6: records that are appended, again after losses of power, are there in order.
func TestManyRecords(t *testing.T) {
	m := maker{rand.New(rand.NewSource(366))}
	losses := 0
	for range 200 {
		f := flash.Erased(100 + m.Intn(200))
		var l [][]byte
		for {
			record := m.record()
			next, err := flash.Append(f, record)
			for err == api.OK && m.chance(2) {
				steps := flash.Steps(f, next)
				if i := m.Intn(len(steps)); i > 0 {
					f = steps[i-1]
				}
				next, err = flash.Append(f, record)
				losses++
			}
			if err != api.OK {
				break
			}
			f, l = next, append(l, record)
			if got := flash.Records(f); !same(got, l) {
				t.Fatalf("%v, want %v", got, l)
			}
		}
	}
	if losses < 500 {
		t.Errorf("only %d losses of power", losses)
	}
}

// P36.7: damage behind the records, or in the other page without its first byte, does not change the records.
func TestDamage(t *testing.T) {
	m := maker{rand.New(rand.NewSource(367))}
	found := 0
	for range 5000 {
		f := m.memory()
		if !refMemory(f) || refCurrent(f) < 0 {
			continue
		}
		c := refCurrent(f)
		want := flash.Records(f)
		_, rest := refRecords(f.Pages[c])
		damaged := clone(f)
		for i := rest; i < len(damaged.Pages[c]); i++ {
			if m.chance(3) {
				damaged.Pages[c][i] = byte(m.Intn(256))
			}
		}
		if f.Pages[1-c][0] == 255 {
			found++
			for i := 1; i < len(f.Pages[1-c]); i++ {
				damaged.Pages[1-c][i] = byte(m.Intn(256))
			}
		}
		if got := flash.Records(damaged); len(got) < len(want) || !same(got[:len(want)], want) {
			t.Fatalf("%v has %v, but damaged %v", f, want, got)
		}
	}
	if found < 100 {
		t.Errorf("only %d memories with an erased page", found)
	}
}

// P36.8: Append has ErrFull exactly if all records and the new one do not fit into one page.
func TestFull(t *testing.T) {
	m := maker{rand.New(rand.NewSource(368))}
	full := 0
	for range 5000 {
		f, record := m.memory(), m.record()
		if !refMemory(f) || len(record) > 200 {
			continue
		}
		size := 3 + 3 + len(record)
		for _, r := range flash.Records(f) {
			size += 3 + len(r)
		}
		_, err := flash.Append(f, record)
		if (err == api.ErrFull) != (size > len(f.Pages[0])) {
			t.Fatalf("Append(%v, %v) = %d", f, record, err)
		}
		if err == api.ErrFull {
			full++
		}
	}
	if full < 300 {
		t.Errorf("only %d times full", full)
	}
}
