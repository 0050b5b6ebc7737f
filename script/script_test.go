package script_test

import (
	"math/rand"
	"slices"
	"strings"
	"testing"

	"domicile/script"
)

// wantOutput checks the output of lines in a new session.
func wantOutput(t *testing.T, text, want string) {
	t.Helper()
	if got := script.Run(0, 9, 2048, text); got != want {
		t.Errorf("Run(%q) = %q, want %q", text, got, want)
	}
}

// P44.1: the examples of the chapter, and a whole script.
func TestExamples(t *testing.T) {
	wantOutput(t, "set 0 1", "error ErrIdle\n")
	wantOutput(t, "status", "idle unsafe steps 0 fence 0 values quarantined\n")
	wantOutput(t, "wait x\nwait\nhub 3", "error ErrNumber\nerror ErrSyntax\nerror ErrArg\n")
	lines := strings.Split(script.Run(0, 9, 2048, "mint 5\nnarrow uses 2"), "\n")
	if len(lines) != 3 || !strings.HasPrefix(lines[0], "cap 5 ") || !strings.HasSuffix(lines[0], " 0") || !strings.HasPrefix(lines[1], "cap 5 ") || !strings.HasSuffix(lines[1], " 1") {
		t.Errorf("mint and narrow: %q", lines)
	}
	wantOutput(t, house+lampRules+"load\nset 2 1\nwait 5\nexplain 2\nexplain 1\nexplain 3\nstatus\njournal\nsync\njournal\nquarantine 1\ntake 7\nstatus\ncrash 0\nstatus", `ok
rule 0 sets 4 to 1
rule 1 sets 4 to 0
rule 1 step 2 sets 4 to 0
  input step 2 expires 0
    rule 0 step 0 starts 0
      input step 0 sets 2 to 1
      start 4 is 0
error ErrNone
running safe steps 3 fence 0 values 0 0 1 0 0 quarantined
ok
entry 0 0 0 1 bytes 339
entry 0 1 0 2 2 1 bytes 0
ok
ok
running safe steps 0 fence 7 values 0 0 1 0 0 quarantined 1
ok
running safe steps 2 fence 0 values 0 0 1 0 1 quarantined
`)
	wantOutput(t, house+lampRules+faulty+"load\nset 2 1\nexplain 0\nwait 3\nanalyse\nset 1 1", `clash 0 2 4 after set 2 1
endless 4 after set 0 1
law 0 after set 2 1, wait 3
dead 3
rule 0 sets 4 to 1
rule 0 step 0 sets 4 to 1
  input step 0 sets 2 to 1
  start 4 is 0
ok
clash 0 2 4 after set 2 1
endless 4 after set 0 1
law 0 after set 2 1, wait 3
dead 3
ok
`)
}

// P44.1, AR3: the limits of a script.
func TestLimits(t *testing.T) {
	wantOutput(t, "", "")
	wantOutput(t, strings.Repeat("\n", 399), "")
	wantOutput(t, strings.Repeat("\n", 400), "error ErrLimit\n")
	wantOutput(t, strings.Repeat("status\n", 400), "error ErrLimit\n")
	blanks := strings.Repeat(strings.Repeat(" ", 999)+"\n", 20)
	wantOutput(t, blanks, "")
	wantOutput(t, blanks+" ", "error ErrLimit\n")
	wantOutput(t, strings.Repeat(" ", 1001)+"\nload", "error ErrLimit\nok\n")
	wantOutput(t, "text\n"+strings.Repeat("x", 1001)+"\nload", "error ErrLimit\nok\n")
	// The text of a house has at most 20000 bytes, and what would be more is not added.
	s := script.New(0, 9, 64)
	for range 20 {
		if l := s.Do("text " + strings.Repeat(" ", 994)); len(l) > 0 {
			t.Fatalf("text: %q", l)
		}
	}
	if l := s.Do("text " + strings.Repeat(" ", 100)); !slices.Equal(l, []string{"error ErrLimit"}) {
		t.Errorf("text: %q", l)
	}
	if l := s.Do("text " + strings.Repeat(" ", 99)); len(l) > 0 {
		t.Errorf("text: %q", l)
	}
	for _, line := range []string{"text", "text ", "text x"} {
		if l := s.Do(line); !slices.Equal(l, []string{"error ErrLimit"}) {
			t.Errorf("%q: %q", line, l)
		}
	}
	if l := s.Do("load"); !slices.Equal(l, []string{"ok"}) {
		t.Errorf("load: %q", l)
	}
	if l := s.Do("text x"); len(l) > 0 {
		t.Errorf("text: %q", l)
	}
}

// P44.1: lines with errors, and their order.
func TestErrors(t *testing.T) {
	for line, want := range map[string]string{
		"wait": "ErrSyntax", "wait 1 2": "ErrSyntax", "wait x y": "ErrSyntax", "wait -": "ErrNumber", "wait 12345678901": "ErrNumber", "wait -12345678901": "ErrNumber", "wait +1": "ErrNumber", "wait 1.0": "ErrNumber", "wait 1234567890": "ErrIdle", "wait -0": "ErrIdle", "set x": "ErrSyntax",
		"narrow kind x": "ErrSyntax", "narrow room x": "ErrNumber", "narrow Room 1": "ErrSyntax", "narrow uses -1": "ErrArg", "narrow uses 1000000001": "ErrArg", "edit": "ErrSyntax", "edit a b": "ErrSyntax", "edit a": "ErrIdle", "hub x": "ErrNumber", "hub 3": "ErrArg", "hub -1": "ErrArg", "merge 3": "ErrArg", "merge -1": "ErrArg", "merge x": "ErrNumber",
		"load 1": "ErrSyntax", "what": "ErrSyntax", "Status": "ErrSyntax", "status\t": "ErrSyntax", "status\n": "ErrSyntax", "# x\n": "ErrSyntax", "\n": "ErrSyntax", "text x\ny": "ErrSyntax", strings.Repeat("#", 1001): "ErrLimit", strings.Repeat("\n", 1001): "ErrLimit", "text" + strings.Repeat(" ", 997): "ErrLimit",
		"mint 1000001": "ErrArg", "mint -1": "ErrArg", "revoke -1": "ErrArg", "take 0": "ErrFence", "crash -1": "ErrArg", "explain 0": "ErrIdle", "analyse": "ErrIdle", "guest 1 2 3": "ErrIdle", "quarantine 1": "ErrIdle", "take 1000000001": "ErrArg", "texts": "ErrSyntax", "text\tx": "ErrSyntax", "narrow uses": "ErrSyntax",
	} {
		if l := script.New(1, 9, 64).Do(line); !slices.Equal(l, []string{"error " + want}) {
			t.Errorf("Do(%q) = %q, want %s", line, l, want)
		}
	}
	for _, line := range []string{"", " ", "    #", "#text", "text", "hub 2", strings.Repeat(" ", 1000), "#" + strings.Repeat("x", 999)} {
		if l := script.New(1, 9, 64).Do(line); len(l) > 0 {
			t.Errorf("Do(%q) = %q", line, l)
		}
	}
	// The text stays as long as there is no request.
	wantOutput(t, "text $\nload x\nload\nload", "error ErrSyntax\nerror ErrChar\nok\n")
	wantOutput(t, "load\ntext $\nedit a b\nedit a\nedit a", "ok\nerror ErrSyntax\nerror ErrChar\nerror ErrNone\n")
	wantOutput(t, "load\ntext $\nedit rule\nedit a", "ok\nerror ErrArg\nerror ErrNone\n")
}

// P44.1, AR1: the first hub, and sessions that were not made rightly.
func TestNew(t *testing.T) {
	for number, want := range map[int]string{0: "entry 0", 1: "entry 1", 2: "entry 2", 3: "entry 0", -1: "entry 0", 1 << 40: "entry 0"} {
		got := script.Run(number, 9, 64, "take 1\nsync\njournal")
		if !strings.HasPrefix(got, "ok\nok\n"+want+" 0 0 7 1 bytes 0\n") {
			t.Errorf("Run(%d) = %q", number, got)
		}
	}
	for _, test := range [][2]int{{-1, 64}, {2147483647, 64}, {9, 15}, {9, 4097}} {
		if got := script.Run(0, test[0], test[1], "status\njournal\nmerge 1\nhub 1\n# x\ntext y"); got != "error ErrArg\nerror ErrArg\n" {
			t.Errorf("Run with %v = %q", test, got)
		}
	}
	var none *script.Session
	if l := none.Do("status"); len(l) > 0 {
		t.Errorf("Do = %q", l)
	}
	if l := new(script.Session).Do("status"); !slices.Equal(l, []string{"error ErrArg"}) {
		t.Errorf("Do = %q", l)
	}
}

// P44.1: random sessions, against the definitions.
func TestRandom(t *testing.T) {
	m := maker{rand.New(rand.NewSource(1))}
	count := map[string]int{}
	for range 200 {
		number, size := m.Intn(4)-m.Intn(2), []int{2048, 4096, 900}[m.Intn(3)]
		s, ref := script.New(number, 9, size), newRef(number, 9, size)
		lines := m.lines(60)
		switch m.Intn(4) {
		case 0, 1:
			lines = append(strings.Split(house+lampRules+"load\nmint 1", "\n"), lines...)
		case 2:
			lines = append(strings.Split(house+lampRules+faulty+"load\nmint 1", "\n"), lines...)
		}
		for _, line := range lines {
			got, want := s.Do(line), ref.do(line)
			if !slices.Equal(got, want) {
				t.Fatalf("Do(%q) = %q, want %q", line, got, want)
			}
			first := append(strings.Fields(line), "")[0]
			for _, l := range got {
				if words := strings.Fields(l); len(first) < 20 {
					count[first+" "+words[0]]++
				}
			}
		}
	}
	for _, name := range []string{
		"load clash", "load endless", "load law", "load dead", "load ok", "edit ok", "set rule", "set ok", "wait rule", "guest ok", "guest rule", "guest error", "narrow cap", "revoke ok", "quarantine ok", "explain rule", "explain input", "explain start", "analyse ok", "analyse clash", "sync ok", "crash ok", "take ok", "status running", "status idle", "journal entry", "merge ok", "merge error", "hub error",
	} {
		if count[name] < 3 {
			t.Errorf("the test covers too little: %s in %v", name, count)
		}
	}
}
