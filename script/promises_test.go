package script_test

import (
	"fmt"
	"math/rand"
	"slices"
	"strings"
	"testing"

	"domicile/script"
)

// P44.2: Run returns the outputs of the lines, one after the other.
func TestLines(t *testing.T) {
	m := maker{rand.New(rand.NewSource(442))}
	for range 80 {
		l := m.lines(40)
		if len(l) > 400 || strings.Contains(strings.Join(l, ""), "\n") {
			continue
		}
		s := script.New(1, 9, 1024)
		var want strings.Builder
		for _, line := range l {
			for _, out := range s.Do(line) {
				want.WriteString(out + "\n")
			}
		}
		text := strings.Join(l, "\n")
		if len(text) > 20000 {
			continue
		}
		if got := script.Run(1, 9, 1024, text); got != want.String() {
			t.Fatalf("Run(%q) = %q, want %q", text, got, want.String())
		}
	}
}

// P44.3: remarks, empty lines and further blanks change nothing.
func TestRemarks(t *testing.T) {
	m := maker{rand.New(rand.NewSource(443))}
	for range 80 {
		a, b := script.New(0, 9, 1024), script.New(0, 9, 1024)
		for _, line := range m.lines(40) {
			if got := a.Do([]string{"", "  ", "# remark", "  #load", "#"}[m.Intn(5)]); len(got) > 0 {
				t.Fatalf("a remark has the output %q", got)
			}
			other := line
			if !strings.HasPrefix(strings.TrimLeft(line, " "), "text") && len(line) < 300 {
				other = " " + strings.ReplaceAll(line, " ", "   ") + "  "
			}
			if x, y := a.Do(line), b.Do(other); !slices.Equal(x, y) {
				t.Fatalf("Do(%q) = %q, Do(%q) = %q", line, x, other, y)
			}
		}
	}
}

// view shows all hubs of a session, and the present one again.
func view(s *script.Session, present int) string {
	var b strings.Builder
	for i := range 3 {
		b.WriteString(look(s, i))
	}
	s.Do(fmt.Sprint("hub ", present))
	return b.String()
}

// look shows a hub, which is the present one afterwards.
func look(s *script.Session, i int) string {
	s.Do(fmt.Sprint("hub ", i))
	return fmt.Sprint(s.Do("status"), s.Do("journal"))
}

// P44.4, P44.5: errors and questions change nothing; a line changes no other hub than the present one.
func TestChanges(t *testing.T) {
	m := maker{rand.New(rand.NewSource(444))}
	failed, changed := 0, 0
	for range 60 {
		s, present := script.New(0, 9, 1024), 0
		for _, line := range m.lines(40) {
			if strings.HasPrefix(line, "hub") {
				continue
			}
			if m.chance(6) {
				present = m.Intn(3)
			}
			before := view(s, present)
			var others [3]string
			for i := range 3 {
				others[i] = look(s, i)
			}
			s.Do(fmt.Sprint("hub ", present))
			out := s.Do(line)
			first := append(strings.Fields(line), "")[0]
			after := view(s, present)
			if failed1 := len(out) == 1 && strings.HasPrefix(out[0], "error"); failed1 || slices.Contains([]string{"status", "journal", "analyse", "explain", "mint", "narrow", "text", ""}, first) {
				if failed++; before != after {
					t.Fatalf("Do(%q) = %q: %s, before %s", line, out, after, before)
				}
			}
			if before != after {
				changed++
			}
			for i := range 3 {
				if now := look(s, i); i != present && now != others[i] {
					t.Fatalf("Do(%q) changes the hub %d: %s, before %s", line, i, now, others[i])
				}
			}
			s.Do(fmt.Sprint("hub ", present))
		}
	}
	if failed < 500 || changed < 300 {
		t.Errorf("the test covers too little: %d, %d", failed, changed)
	}
}

// P44.6: after sync and crash, a hub has the same journal, and the same beside its values and steps.
func TestPower(t *testing.T) {
	m := maker{rand.New(rand.NewSource(446))}
	checked := 0
	for range 150 {
		s := script.New(0, 9, 4096)
		for _, line := range m.lines(25) {
			s.Do(line)
		}
		if out := s.Do("sync"); out[0] != "ok" {
			continue
		}
		status := func() []string {
			words := strings.Fields(s.Do("status")[0])
			at, end := slices.Index(words, "values"), slices.Index(words, "quarantined")
			return slices.Concat(words[:1], words[4:at], words[end:])
		}
		before, journal := status(), s.Do("journal")
		s.Do("crash 0")
		if after := status(); !slices.Equal(after, before) || !slices.Equal(s.Do("journal"), journal) {
			t.Fatalf("%v, before %v", after, before)
		}
		checked++
	}
	if checked < 100 {
		t.Errorf("only %d losses of power", checked)
	}
}

// P44.7: hubs that merge each other's journals, and sync, have the same journal.
func TestMerging(t *testing.T) {
	m := maker{rand.New(rand.NewSource(447))}
	merged := 0
	for range 100 {
		s := script.New(0, 9, 4096)
		for _, line := range strings.Split(house+lampRules+"load\nsync\nhub 1\nmerge 0", "\n") {
			s.Do(line)
		}
		for i := range 2 {
			s.Do(fmt.Sprint("hub ", i))
			for _, line := range m.lines(8) {
				if !strings.HasPrefix(line, "hub") && !strings.HasPrefix(line, "crash") {
					s.Do(line)
				}
			}
		}
		out := ""
		for _, line := range []string{"hub 0", "sync", "hub 1", "sync", "merge 0", "hub 0", "merge 1", "sync", "hub 1", "sync"} {
			out += strings.Join(s.Do(line), " ")
		}
		if strings.Contains(out, "error") {
			continue
		}
		merged++
		one := s.Do("journal")
		s.Do("hub 0")
		if other := s.Do("journal"); !slices.Equal(one, other) {
			t.Fatalf("%q and %q", one, other)
		}
	}
	if merged < 40 {
		t.Errorf("only %d times both merged", merged)
	}
}

// P44.8: each command of a safe hub is explained by an input.
func TestWhole(t *testing.T) {
	m := maker{rand.New(rand.NewSource(448))}
	commands := 0
	for range 100 {
		s := script.New(0, 9, 4096)
		for _, line := range strings.Split(house+lampRules+"text law long never l.power is on for 5 s;\nload", "\n") {
			s.Do(line)
		}
		for range 30 {
			line := []string{fmt.Sprintf("set %d %d", 2+m.Intn(2), m.Intn(2)), fmt.Sprintf("set 2 %d", m.Intn(2)), fmt.Sprintf("wait %d", 1+m.Intn(6)), "sync", "crash 0", "edit none", m.line()}[m.Intn(7)]
			if strings.HasPrefix(line, "hub") || strings.Contains(line, "\n") {
				continue
			}
			printed := 0
			for _, l := range s.Do(line) {
				if strings.HasPrefix(l, "rule") && !strings.HasPrefix(line, "explain") {
					printed++
				}
			}
			words := strings.Fields(s.Do("status")[0])
			var steps int
			fmt.Sscan(words[3], &steps)
			if words[1] != "safe" || printed == 0 {
				continue
			}
			explained := 0
			for step := range steps {
				for i, l := range s.Do(fmt.Sprint("explain ", step)) {
					if strings.HasPrefix(l, "rule") {
						explained++
					}
					if i == 1 && !strings.HasPrefix(l, "  input step "+fmt.Sprint(step)) && !strings.HasPrefix(l, "  rule") {
						t.Fatalf("step %d: %q", step, l)
					}
				}
			}
			if commands += printed; explained < printed {
				t.Fatalf("Do(%q): %d commands, %d explained", line, printed, explained)
			}
		}
	}
	if commands < 100 {
		t.Errorf("only %d commands", commands)
	}
}

// P3: equal sessions with equal lines have equal outputs.
func TestIndependence(t *testing.T) {
	m := maker{rand.New(rand.NewSource(449))}
	for range 30 {
		l := m.lines(40)
		a, b := script.New(2, 9, 1024), script.New(2, 9, 1024)
		for _, line := range l {
			x := a.Do(line)
			text := fmt.Sprint(x)
			for i := range x {
				x[i] = "changed"
			}
			if y := fmt.Sprint(b.Do(line)); y != text {
				t.Fatalf("Do(%q): %s and %s", line, text, y)
			}
		}
	}
}
