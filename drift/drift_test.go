package drift_test

import (
	"fmt"
	"math"
	"math/rand"
	"slices"
	"testing"

	"domicile/api"
	"domicile/drift"
)

const latest = 2000000000

func span(low, high int) api.Span { return api.Span{Low: low, High: high} }

// canCount follows the definition.
func canCount(seconds, d, t int) bool {
	return (1000000-d)*t <= 1000000*seconds && 1000000*seconds <= (1000000+d)*t
}

// maker makes up times, ranges and readings.
type maker struct{ *rand.Rand }

func (m maker) chance(n int) bool { return m.Intn(n) == 0 }

func (m maker) seconds() int {
	switch m.Intn(4) {
	case 0:
		return m.Intn(1000000001)
	case 1:
		return []int{0, 1, 999999999, 1000000000, 1000000}[m.Intn(5)]
	}
	return m.Intn(5000)
}

func (m maker) drift() int {
	switch m.Intn(3) {
	case 0:
		return m.Intn(100001)
	case 1:
		return []int{0, 1, 100000, 99999}[m.Intn(4)]
	}
	return m.Intn(200)
}

func (m maker) span(most int) api.Span {
	low := m.Intn(most + 1)
	return span(low, low+m.Intn(most+1-low))
}

func (m maker) readings() []int {
	l := make([]int, m.Intn(12))
	now := m.Intn(2000) - 1000
	for i := range l {
		now += m.Intn(40) - 10
		if m.chance(8) {
			now = []int{-1000000000, 1000000000, 0}[m.Intn(3)]
		}
		now = max(-1000000000, min(1000000000, now))
		l[i] = now
	}
	return l
}

// P37.1: the examples of the chapter.
func TestExamples(t *testing.T) {
	for i, test := range []struct {
		seconds, d int
		want       api.Span
	}{
		{1000, 0, span(1000, 1000)}, {1000, 100000, span(910, 1111)}, {0, 100000, span(0, 0)}, {1, 1, span(1, 1)}, {1000000, 1, span(999999+1, 1000001)}, {1000001, 1, span(1000000, 1000002)}, {1000000000, 100000, span(909090910, 1111111111)}, {11, 100000, span(10, 12)}, {9, 100000, span(9, 10)},
	} {
		got, err := drift.Since(test.seconds, test.d)
		if err != api.OK || got != test.want {
			t.Errorf("%d: Since(%d, %d) = %v, %d, want %v", i, test.seconds, test.d, got, err, test.want)
		}
	}
	if got, err := drift.Now(span(50, 60), 1000, 100000); err != api.OK || got != span(960, 1171) {
		t.Errorf("Now = %v, %d", got, err)
	}
	if !drift.Before(span(1, 5), span(6, 9)) || drift.Before(span(1, 5), span(5, 9)) || drift.Before(span(6, 9), span(1, 5)) {
		t.Error("Before")
	}
	if got, ok := drift.Meet(span(1, 5), span(5, 9)); !ok || got != span(5, 5) {
		t.Errorf("Meet = %v, %v", got, ok)
	}
	if got := drift.Back([]int{10, 20, 5, 8, 30}); !slices.Equal(got, []int{10, 20, 20, 23, 45}) {
		t.Errorf("Back = %v", got)
	}
}

// P37.1: errors, and their order.
func TestErrors(t *testing.T) {
	for _, test := range []struct{ seconds, d int }{{-1, 0}, {1000000001, 0}, {math.MaxInt, 0}, {math.MinInt, 0}, {5, -1}, {5, 100001}, {5, math.MaxInt}, {5, math.MinInt}} {
		if got, err := drift.Since(test.seconds, test.d); err != api.ErrArg || got != (api.Span{}) {
			t.Errorf("Since(%d, %d) = %v, %d", test.seconds, test.d, got, err)
		}
		for _, set := range []api.Span{{}, span(latest, latest)} {
			if got, err := drift.Now(set, test.seconds, test.d); err != api.ErrArg || got != (api.Span{}) {
				t.Errorf("Now(%d, %d) = %v, %d", test.seconds, test.d, got, err)
			}
		}
	}
	good := span(0, latest)
	for _, bad := range []api.Span{span(-1, 5), span(5, 4), span(0, latest+1), span(math.MinInt, math.MaxInt), span(math.MaxInt, math.MaxInt), span(-9, -5)} {
		if got, err := drift.Now(bad, 5, 5); err != api.ErrArg || got != (api.Span{}) {
			t.Errorf("Now(%v) = %v, %d", bad, got, err)
		}
		for _, pair := range [][2]api.Span{{bad, good}, {good, bad}, {bad, bad}} {
			if got, ok := drift.Meet(pair[0], pair[1]); ok || got != (api.Span{}) {
				t.Errorf("Meet(%v) = %v", pair, got)
			}
		}
		if drift.Before(bad, span(latest, latest)) || drift.Before(span(0, 0), bad) {
			t.Errorf("Before with %v", bad)
		}
	}
	for _, test := range []struct {
		set        api.Span
		seconds, d int
		want       api.Errno
	}{
		{span(0, 1000000000), 1000000000, 0, api.OK}, {span(0, 1000000001), 1000000000, 0, api.ErrTime}, {span(latest, latest), 0, 100000, api.OK}, {span(0, latest), 1, 0, api.ErrTime}, {span(0, 888888889), 1000000000, 100000, api.OK}, {span(0, 888888890), 1000000000, 100000, api.ErrTime},
	} {
		got, err := drift.Now(test.set, test.seconds, test.d)
		if err != test.want || err != api.OK && got != (api.Span{}) {
			t.Errorf("Now(%v, %d, %d) = %v, %d, want %d", test.set, test.seconds, test.d, got, err, test.want)
		}
	}
	if got, ok := drift.Meet(span(1, 4), span(5, 9)); ok || got != (api.Span{}) {
		t.Errorf("Meet = %v", got)
	}
}

// P37.1, AK4: the limits of readings.
func TestReadings(t *testing.T) {
	long := slices.Repeat([]int{1000000000, -1000000000}, 200)
	got := drift.Back(long)
	if len(got) != 400 || got[0] != 1000000000 || got[399] != 1000000000+199*latest {
		t.Errorf("Back of 400 readings = %v", got)
	}
	for i, l := range [][]int{append(long, 0), {1000000001}, {0, -1000000001}, {math.MaxInt}, {math.MinInt}, nil} {
		if got := drift.Back(l); len(got) > 0 {
			t.Errorf("%d: Back = %v", i, got)
		}
	}
	if got := drift.Back([]int{-1000000000, -1000000000, 1000000000}); !slices.Equal(got, []int{-1000000000, -1000000000, 1000000000}) {
		t.Errorf("Back = %v", got)
	}
}

// P37.2: a time is in the range exactly if the clock can count the seconds while it passes.
func TestExact(t *testing.T) {
	m := maker{rand.New(rand.NewSource(372))}
	for range 20000 {
		c, d := m.seconds(), m.drift()
		got, err := drift.Since(c, d)
		if err != api.OK || got.Low > c || got.High < c {
			t.Fatalf("Since(%d, %d) = %v, %d", c, d, got, err)
		}
		for _, time := range []int{got.Low - 1, got.Low, got.Low + 1, c, got.High - 1, got.High, got.High + 1, m.Intn(latest)} {
			if time >= 0 && canCount(c, d, time) != (got.Low <= time && time <= got.High) {
				t.Fatalf("Since(%d, %d) = %v, but %d", c, d, got, time)
			}
		}
	}
}

// P37.3: what can pass in two parts can pass in the whole.
func TestParts(t *testing.T) {
	m := maker{rand.New(rand.NewSource(373))}
	for range 10000 {
		a, b, d := m.seconds()/2, m.seconds()/2, m.drift()
		first, _ := drift.Since(a, d)
		second, _ := drift.Since(b, d)
		whole, err := drift.Since(a+b, d)
		if err != api.OK || whole.Low > first.Low+second.Low || whole.High < first.High+second.High {
			t.Fatalf("Since(%d + %d, %d) = %v, %d, but %v and %v", a, b, d, whole, err, first, second)
		}
		// The same with clocks that are set.
		set := m.span(1000)
		if now, err := drift.Now(set, a, d); err == api.OK {
			if later, err := drift.Now(now, b, d); err == api.OK {
				all, _ := drift.Now(set, a+b, d)
				if all.Low > later.Low || all.High < later.High {
					t.Fatalf("Now(%v, %d + %d, %d) = %v, but %v", set, a, b, d, all, later)
				}
			}
		}
	}
}

// P37.4: with more drift, ranges are not narrower; without drift they are exact.
func TestMoreDrift(t *testing.T) {
	m := maker{rand.New(rand.NewSource(374))}
	wider := 0
	for range 10000 {
		c, d := m.seconds(), m.drift()
		e := d + m.Intn(100001-d)
		less, _ := drift.Since(c, d)
		more, _ := drift.Since(c, e)
		if more.Low > less.Low || more.High < less.High {
			t.Fatalf("Since(%d, %d) = %v, but with %d %v", c, d, less, e, more)
		}
		if more != less {
			wider++
		}
		if got, _ := drift.Since(c, 0); got != span(c, c) {
			t.Fatalf("Since(%d, 0) = %v", c, got)
		}
		set := m.span(1000000000)
		if got, err := drift.Now(set, c, 0); err == api.OK && got != span(set.Low+c, set.High+c) {
			t.Fatalf("Now(%v, %d, 0) = %v", set, c, got)
		}
	}
	if wider < 1000 {
		t.Errorf("only %d ranges are wider", wider)
	}
}

// P37.5: the true time is in the range of Now, and in that of Meet.
func TestTruth(t *testing.T) {
	m := maker{rand.New(rand.NewSource(375))}
	met := 0
	for range 10000 {
		set, c, d := m.span(1000000), m.seconds(), m.drift()
		start := set.Low + m.Intn(set.High-set.Low+1)
		since, _ := drift.Since(c, d)
		truth := start + since.Low + m.Intn(since.High-since.Low+1)
		if !canCount(c, d, truth-start) {
			t.Fatalf("Since(%d, %d) = %v", c, d, since)
		}
		now, err := drift.Now(set, c, d)
		if err != api.OK || truth < now.Low || truth > now.High || now != span(set.Low+since.Low, set.High+since.High) {
			t.Fatalf("Now(%v, %d, %d) = %v, %d, but it is %d", set, c, d, now, err, truth)
		}
		other := m.span(latest)
		if m.chance(2) {
			other = span(max(0, truth-m.Intn(100)), truth+m.Intn(100))
		}
		both, ok := drift.Meet(now, other)
		back, also := drift.Meet(other, now)
		if both != back || ok != also {
			t.Fatalf("Meet(%v, %v) = %v, %v", now, other, both, back)
		}
		for _, time := range []int{truth, now.Low, now.High, other.Low, other.High, both.Low - 1, both.High + 1, m.Intn(latest)} {
			in := now.Low <= time && time <= now.High && other.Low <= time && time <= other.High
			if in != (ok && both.Low <= time && time <= both.High) {
				t.Fatalf("Meet(%v, %v) = %v, but %d", now, other, both, time)
			}
		}
		if ok {
			met++
		}
	}
	if met < 3000 {
		t.Errorf("only %d ranges meet", met)
	}
}

// P37.6: Before is a strict order, of the times as well; ranges that meet are not before each other.
func TestBefore(t *testing.T) {
	m := maker{rand.New(rand.NewSource(376))}
	chains := 0
	for range 20000 {
		a, b, c := m.span(30), m.span(30), m.span(30)
		if drift.Before(a, a) || drift.Before(a, b) && drift.Before(b, a) {
			t.Fatalf("%v and %v", a, b)
		}
		if drift.Before(a, b) && drift.Before(b, c) {
			chains++
			if !drift.Before(a, c) {
				t.Fatalf("%v, %v and %v", a, b, c)
			}
		}
		_, ok := drift.Meet(a, b)
		if ok == (drift.Before(a, b) || drift.Before(b, a)) || drift.Before(a, b) != (a.High < b.Low) {
			t.Fatalf("%v and %v meet: %v", a, b, ok)
		}
	}
	if chains < 200 {
		t.Errorf("only %d chains", chains)
	}
}

// P37.7: corrected readings do not decrease, and follow the readings until the clock is set back.
func TestCorrected(t *testing.T) {
	m := maker{rand.New(rand.NewSource(377))}
	back := 0
	for range 5000 {
		l := m.readings()
		got := drift.Back(l)
		if len(got) != len(l) {
			t.Fatalf("Back(%v) = %v", l, got)
		}
		straight := true
		for i, now := range got {
			if i > 0 && l[i] < l[i-1] {
				straight = false
			}
			if i > 0 && now < got[i-1] || now < l[i] || straight && now != l[i] || i > 0 && now != got[i-1]+max(0, l[i]-l[i-1]) {
				t.Fatalf("Back(%v) = %v", l, got)
			}
		}
		if !straight {
			back++
		}
		n := m.Intn(len(l) + 1)
		if first := drift.Back(l[:n]); !slices.Equal(first, got[:n]) {
			t.Fatalf("Back(%v) = %v, but %v", l[:n], first, got)
		}
		by := m.Intn(2000) - 1000
		moved := slices.Clone(l)
		for i := range moved {
			moved[i] += by
		}
		if slices.ContainsFunc(moved, func(n int) bool { return n < -1000000000 || n > 1000000000 }) {
			continue
		}
		for i, now := range drift.Back(moved) {
			if now != got[i]+by {
				t.Fatalf("Back(%v) = %v, moved by %d %v", l, got, by, drift.Back(moved))
			}
		}
	}
	if back < 1000 {
		t.Errorf("only %d clocks were set back", back)
	}
}

// P3: equal arguments yield equal results, arguments stay as they are, and results share no memory.
func TestIndependence(t *testing.T) {
	m := maker{rand.New(rand.NewSource(378))}
	for range 500 {
		l := m.readings()
		before := fmt.Sprint(l)
		first := drift.Back(l)
		text := fmt.Sprint(first)
		for i := range first {
			first[i] = 7
		}
		if fmt.Sprint(drift.Back(l)) != text || fmt.Sprint(l) != before {
			t.Fatalf("%s: %s", before, text)
		}
	}
}
