package hours_test

import (
	"math/rand"
	"slices"
	"testing"

	"domicile/api"
	"domicile/hours"
)

// P22.2: quiet hours are the same on each day.
func TestDays(t *testing.T) {
	m := maker{rand.New(rand.NewSource(22))}
	for range 1000 {
		l, minute, days := m.windows(), m.Intn(20000)-10000, m.Intn(1000)-500
		if hours.Quiet(l, minute) != hours.Quiet(l, minute+1440*days) {
			t.Fatalf("%v: minute %d differs %d days later", l, minute, days)
		}
		a, _ := hours.Next(l, minute)
		if b, _ := hours.Next(l, minute+1440*days); a != b {
			t.Fatalf("%v: Next(%d) differs %d days later", l, minute, days)
		}
	}
}

// P22.3: until the next change everything is as now; it comes within a day.
func TestNextChange(t *testing.T) {
	m := maker{rand.New(rand.NewSource(23))}
	found := 0
	for range 200 {
		l, minute := m.windows(), m.Intn(9000)-4500
		now := hours.Quiet(l, minute)
		n, ok := hours.Next(l, minute)
		if !ok {
			n = 1441
		} else if found++; n < 1 || n > 1440 || hours.Quiet(l, minute+n) == now {
			t.Fatalf("%v: no change %d minutes after %d", l, n, minute)
		}
		for i := range n {
			if hours.Quiet(l, minute+i) != now {
				t.Fatalf("%v: a change %d minutes after %d, before %d", l, i, minute, n)
			}
		}
	}
	if found < 100 {
		t.Errorf("only %d changes", found)
	}
}

// P22.4: changes alternate, decide, and can be joined.
func TestChanges(t *testing.T) {
	m := maker{rand.New(rand.NewSource(24))}
	for range 200 {
		l, from := m.windows(), m.Intn(9000)-4500
		middle := from + m.Intn(4000)
		till := middle + m.Intn(4000)
		all := hours.Changes(l, from, till)
		if joined := slices.Concat(hours.Changes(l, from, middle), hours.Changes(l, middle, till)); !slices.Equal(all, joined) {
			t.Fatalf("%v: %v, but in two parts %v", l, all, joined)
		}
		quiet, i := hours.Quiet(l, from), 0
		for minute := from + 1; minute <= till; minute++ {
			if i < len(all) && all[i].Minute == minute {
				if all[i].Quiet == quiet {
					t.Fatalf("%v: %v does not alternate", l, all)
				}
				quiet = all[i].Quiet
				i++
			}
			if hours.Quiet(l, minute) != quiet {
				t.Fatalf("%v: minute %d is not decided by %v", l, minute, all)
			}
		}
		if i != len(all) {
			t.Fatalf("%v: %v is not increasing from %d to %d", l, all, from, till)
		}
	}
}

// P22.5: order and repetition do not matter; a further window makes no minute less quiet.
func TestWindows(t *testing.T) {
	m := maker{rand.New(rand.NewSource(25))}
	for range 100 {
		l := m.windows()
		if len(l) == 0 || len(l) > 7 {
			continue
		}
		other := slices.Clone(l)
		m.Shuffle(len(other), func(i, j int) { other[i], other[j] = other[j], other[i] })
		other = append(other, other[0])
		more := append(slices.Clone(l), api.Window{From: 100, To: 100 + 1 + m.Intn(1000)})
		for minute := 0; minute < 1440; minute++ {
			quiet := hours.Quiet(l, minute)
			if hours.Quiet(other, minute) != quiet {
				t.Fatalf("%v and %v differ at %d", l, other, minute)
			}
			if quiet && !hours.Quiet(more, minute) {
				t.Fatalf("%v is less quiet than %v at %d", more, l, minute)
			}
		}
	}
}

// P22.6: between two readings there is an even number of changes exactly if both are equally quiet.
func TestClocks(t *testing.T) {
	m := maker{rand.New(rand.NewSource(26))}
	odd := 0
	for range 1000 {
		l, from := m.windows(), m.Intn(9000)-4500
		till := from + 1 + m.Intn(14400)
		n := len(hours.Changes(l, from, till))
		if (n%2 == 0) != (hours.Quiet(l, from) == hours.Quiet(l, till)) {
			t.Fatalf("%v: %d changes from %d to %d", l, n, from, till)
		}
		odd += n % 2
	}
	if odd < 100 {
		t.Errorf("only %d times an odd number of changes", odd)
	}
}
