package bytecode_test

import (
	"bytes"
	"math/rand"
	"reflect"
	"slices"
	"strings"
	"testing"

	"domicile/api"
	"domicile/bytecode"
)

// code returns a sequence from pairs of Ops and Args.
func code(numbers ...int) []api.Instr {
	var l []api.Instr
	for i := 0; i < len(numbers); i += 2 {
		l = append(l, api.Instr{Op: numbers[i], Arg: numbers[i+1]})
	}
	return l
}

// is is a condition that the variable 0 has the value 1.
func is() []api.Instr { return code(api.InsVar, 0, api.InsConst, 1, api.InsEq, 0) }

// full is a valid program with a part of each kind.
func full() api.Program {
	return api.Program{
		Vars: []api.Var{{Name: "m", Size: 2, Start: 1, Sensor: true, Device: -1, Attr: -1}, {Name: "lamp.level", Size: 16, Start: 15, Fallback: 15, Private: true, Shown: true, Device: 1000000000, Attr: 1000000000}}, Timers: 2,
		Units: []api.Unit{
			{Priority: 100, Timer: -1, Trigger: is(), Guard: append(is(), code(api.InsVar, 1, api.InsConst, 86400, api.InsLt, 0, api.InsAnd, 0)...), Action: code(api.InsConst, 15, api.InsSet, 1, api.InsConst, 86400, api.InsStart, 1)},
			{Timer: 1, Action: code(api.InsConst, 0, api.InsStart, 0)},
			{Timer: 0, Guard: is()},
		},
		Laws: []api.LawCode{{Cond: is(), Bound: 86400}, {Cond: is()}},
		Over: []api.Pair{{Winner: 1, Loser: 0}, {Winner: 0, Loser: 2}},
	}
}

// normal returns a program in which empty slices are nil.
func normal(p api.Program) api.Program {
	p.Units, p.Laws = slices.Clone(p.Units), slices.Clone(p.Laws)
	for i, u := range p.Units {
		for _, l := range []*[]api.Instr{&u.Trigger, &u.Guard, &u.Action} {
			if len(*l) == 0 {
				*l = nil
			}
		}
		p.Units[i] = u
	}
	if len(p.Vars) == 0 {
		p.Vars = nil
	}
	if len(p.Units) == 0 {
		p.Units = nil
	}
	if len(p.Laws) == 0 {
		p.Laws = nil
	}
	if len(p.Over) == 0 {
		p.Over = nil
	}
	return p
}

// wantCheck checks the error of a program, and that it has bytes exactly if there is none.
func wantCheck(t *testing.T, name string, p api.Program, want api.Errno) {
	t.Helper()
	if got := bytecode.Check(p); got != want {
		t.Errorf("%s: Check = %v, want %v", name, got, want)
	}
	if got := bytecode.Encode(p); (len(got) > 0) != (want == api.OK) {
		t.Errorf("%s: Encode = %v, want an error: %v", name, got, want)
	}
}

// wantFormat checks that bytes are those of no program.
func wantFormat(t *testing.T, b []byte) {
	t.Helper()
	if p, err := bytecode.Decode(b); err != api.ErrFormat || !reflect.DeepEqual(p, api.Program{}) {
		t.Errorf("Decode(%v) = %+v, %v, want %v", b, p, err, api.ErrFormat)
	}
}

// P8.1: the bytes of programs, with the example of the chapter.
func TestBytes(t *testing.T) {
	for _, test := range []struct {
		p    api.Program
		body []byte // without the checksum
	}{
		{api.Program{}, []byte{68, 66, 1, 1, 1, 1, 1, 1}},
		{api.Program{Timers: 40}, []byte{68, 66, 1, 1, 41, 1, 1, 1}},
		{api.Program{Vars: []api.Var{{Name: "ab", Size: 16, Start: 15, Fallback: 3, Sensor: true, Shown: true, Device: -1, Attr: 127}}}, []byte{68, 66, 1, 2, 3, 97, 98, 17, 16, 4, 5, 0, 128, 1, 1, 1, 1, 1}},
		{api.Program{Vars: []api.Var{{Size: 1, Private: true, Device: 16383, Attr: 1000000000}}}, []byte{68, 66, 1, 2, 1, 2, 1, 1, 2, 128, 128, 1, 129, 148, 235, 220, 3, 1, 1, 1, 1}},
		{api.Program{Timers: 1, Units: []api.Unit{{Priority: 7, Timer: 0, Action: code(api.InsConst, 86400, api.InsStart, 0)}}}, []byte{68, 66, 1, 1, 2, 2, 8, 1, 1, 1, 3, 2, 129, 163, 5, 11, 1, 1, 1}},
		{api.Program{Vars: []api.Var{{Size: 2}}, Units: []api.Unit{{Timer: -1, Trigger: is()}, {Timer: -1, Trigger: is()}}, Laws: []api.LawCode{{Cond: is(), Bound: 4}}, Over: []api.Pair{{Winner: 1, Loser: 0}}},
			[]byte{68, 66, 1, 2, 1, 3, 1, 1, 0, 1, 1, 1, 3, 1, 0, 4, 1, 1, 2, 2, 3, 1, 1, 1, 1, 0, 4, 1, 1, 2, 2, 3, 1, 1, 1, 2, 4, 1, 1, 2, 2, 3, 1, 5, 2, 2, 1}},
	} {
		want := withSum(test.body)
		if got := bytecode.Encode(test.p); !bytes.Equal(got, want) || !bytes.Equal(got, refEncode(test.p)) {
			t.Errorf("Encode(%+v) = %v, want %v", test.p, got, want)
		}
		if got, err := bytecode.Decode(want); err != api.OK || !reflect.DeepEqual(normal(got), normal(test.p)) {
			t.Errorf("Decode(%v) = %+v, %v, want %+v", want, got, err, test.p)
		}
	}
	if got := bytecode.Encode(api.Program{}); !bytes.Equal(got, []byte{68, 66, 1, 1, 1, 1, 1, 1, 0, 140}) {
		t.Errorf("the empty program has the bytes %v", got)
	}
}

// P8.1: names of any length, and a sum that is greater than 65521.
func TestLongNames(t *testing.T) {
	for _, length := range []int{126, 127, 128, 257, 1000, 16382, 16383, 20000, 3000000} {
		p := full()
		p.Vars[0].Name = strings.Repeat("\xff", length)
		b := bytecode.Encode(p)
		if !bytes.Equal(b, refEncode(p)) {
			t.Errorf("a name of %d bytes has other bytes", length)
		}
		if got, err := bytecode.Decode(b); err != api.OK || !reflect.DeepEqual(normal(got), normal(p)) {
			t.Errorf("a name of %d bytes is not decoded: %v", length, err)
		}
	}
}

// P8.1: depths, with the examples of the chapter.
func TestDepth(t *testing.T) {
	deep := slices.Repeat(code(api.InsVar, 0), 400)
	for _, test := range []struct {
		l    []api.Instr
		want int
		err  api.Errno
	}{
		{nil, 0, api.OK},
		{is(), 2, api.OK},
		{append(is(), code(api.InsVar, 1, api.InsConst, 0, api.InsNe, 0, api.InsAnd, 0)...), 3, api.OK},
		{code(api.InsConst, 1, api.InsSet, 0), 1, api.OK},
		{code(api.InsConst, 1, api.InsStart, 0), 1, api.OK},
		{code(api.InsConst, 1), 1, api.OK},
		{code(api.InsConst, 1, api.InsVar, 0, api.InsVar, 0, api.InsGe, 0), 3, api.OK},
		{code(api.InsConst, -5, api.InsVar, 1<<62, api.InsLt, 99), 2, api.OK},
		{deep, 400, api.OK},
		{append(slices.Clone(deep), api.Instr{Op: api.InsVar}), 0, api.ErrLimit},
		{append(slices.Clone(deep), api.Instr{Op: api.InsAnd}), 0, api.ErrLimit},
		{append(slices.Clone(deep[1:]), api.Instr{Op: api.InsAnd}), 0, api.ErrCode},
		{code(api.InsAnd, 0), 0, api.ErrCode},
		{code(api.InsVar, 0, api.InsEq, 0), 0, api.ErrCode},
		{code(api.InsVar, 0, api.InsVar, 0, api.InsAnd, 0), 0, api.ErrCode},
		{append(is(), code(api.InsVar, 0, api.InsAnd, 0)...), 0, api.ErrCode},
		{append(code(api.InsVar, 0), append(is(), code(api.InsAnd, 0)...)...), 0, api.ErrCode},
		{append(is(), code(api.InsVar, 0, api.InsEq, 0)...), 0, api.ErrCode},
		{append(is(), code(api.InsSet, 0)...), 0, api.ErrCode},
		{append(is(), code(api.InsStart, 0)...), 0, api.ErrCode},
		{code(api.InsSet, 0), 0, api.ErrCode},
		{code(api.InsStart, 0), 0, api.ErrCode},
		{code(0, 0), 0, api.ErrCode},
		{code(12, 0), 0, api.ErrCode},
		{code(-1, 0), 0, api.ErrCode},
		{code(1<<62, 0), 0, api.ErrCode},
		{code(257, 0), 0, api.ErrCode},
	} {
		if got, err := bytecode.Depth(test.l); got != test.want || err != test.err {
			t.Errorf("Depth(%v) = %v, %v, want %v, %v", test.l, got, err, test.want, test.err)
		}
	}
}

// P8.1: what is ErrArg, whatever the code is.
func TestArgErrors(t *testing.T) {
	wantCheck(t, "the full program", full(), api.OK)
	wantCheck(t, "the empty program", api.Program{}, api.OK)
	for name, change := range map[string]func(*api.Program){
		"size 0":               func(p *api.Program) { p.Vars[0].Size = 0 },
		"size 17":              func(p *api.Program) { p.Vars[1].Size = 17 },
		"start of size":        func(p *api.Program) { p.Vars[0].Start = 2 },
		"start -1":             func(p *api.Program) { p.Vars[0].Start = -1 },
		"fallback of size":     func(p *api.Program) { p.Vars[1].Fallback = 16 },
		"fallback -1":          func(p *api.Program) { p.Vars[0].Fallback = -1 },
		"device -2":            func(p *api.Program) { p.Vars[0].Device = -2 },
		"device too great":     func(p *api.Program) { p.Vars[1].Device = 1000000001 },
		"attr -2":              func(p *api.Program) { p.Vars[0].Attr = -2 },
		"attr too great":       func(p *api.Program) { p.Vars[1].Attr = 1000000001 },
		"timers -1":            func(p *api.Program) { p.Timers = -1 },
		"timers 41":            func(p *api.Program) { p.Timers = 41 },
		"timers 1":             func(p *api.Program) { p.Timers = 1 },
		"priority -1":          func(p *api.Program) { p.Units[1].Priority = -1 },
		"priority 101":         func(p *api.Program) { p.Units[0].Priority = 101 },
		"timer -2":             func(p *api.Program) { p.Units[0].Timer = -2 },
		"timer of timers":      func(p *api.Program) { p.Units[2].Timer = 2 },
		"timer and trigger":    func(p *api.Program) { p.Units[1].Trigger = is() },
		"no trigger":           func(p *api.Program) { p.Units[0].Trigger = nil },
		"no timer, no trigger": func(p *api.Program) { p.Units[1].Timer = -1 },
		"law without code":     func(p *api.Program) { p.Laws[1].Cond = nil },
		"bound -1":             func(p *api.Program) { p.Laws[1].Bound = -1 },
		"bound 86401":          func(p *api.Program) { p.Laws[0].Bound = 86401 },
		"pair of one unit":     func(p *api.Program) { p.Over[0].Loser = 1 },
		"winner -1":            func(p *api.Program) { p.Over[0].Winner = -1 },
		"loser of units":       func(p *api.Program) { p.Over[1].Loser = 3 },
		"pair twice":           func(p *api.Program) { p.Over[1] = p.Over[0] },
		"pair and inverse":     func(p *api.Program) { p.Over[1] = api.Pair{Winner: 0, Loser: 1} },
	} {
		p := full()
		change(&p)
		wantCheck(t, name, p, api.ErrArg)
		if len(p.Units[0].Trigger) > 0 {
			p.Units[0].Trigger = code(99, 99)
		}
		p.Units[2].Action = code(api.InsConst, 0)
		wantCheck(t, name+" and wrong code", p, api.ErrArg)
	}
}

// P8.1: what is ErrCode.
func TestCodeErrors(t *testing.T) {
	long := slices.Concat(slices.Repeat(append(is(), api.Instr{Op: api.InsVar}, api.Instr{Op: api.InsConst}, api.Instr{Op: api.InsLt}), 66))
	for range 131 {
		long = append(long, api.Instr{Op: api.InsAnd})
	}
	conditions := map[string][]api.Instr{
		"not typed": code(api.InsAnd, 0), "a number": code(api.InsConst, 1), "two truth values": append(is(), is()...), "a number and a truth value": append(code(api.InsVar, 0), is()...), "an unknown Op": append(is(), code(12, 0)...), "the Op 0": append(is(), code(0, 0)...),
		"a variable too great": code(api.InsVar, 2, api.InsConst, 1, api.InsEq, 0), "the variable -1": code(api.InsVar, -1, api.InsConst, 1, api.InsEq, 0), "the constant -1": code(api.InsVar, 0, api.InsConst, -1, api.InsEq, 0), "a constant too great": code(api.InsVar, 0, api.InsConst, 86401, api.InsEq, 0),
		"an Arg of InsEq": code(api.InsVar, 0, api.InsConst, 1, api.InsEq, 1), "an Arg of InsAnd": append(append(is(), is()...), code(api.InsAnd, -1)...), "InsSet": append(code(api.InsConst, 0, api.InsSet, 0), is()...), "InsStart": append(is(), code(api.InsConst, 0, api.InsStart, 0)...),
		"a depth of 17": nest(17), "too many instructions": long,
	}
	for name, l := range conditions {
		p, q, r := full(), full(), full()
		p.Units[0].Trigger, q.Units[2].Guard, r.Laws[1].Cond = l, l, l
		wantCheck(t, name+" in a trigger", p, api.ErrCode)
		wantCheck(t, name+" in a guard", q, api.ErrCode)
		wantCheck(t, name+" in a law", r, api.ErrCode)
	}
	for name, l := range map[string][]api.Instr{
		"half a pair": code(api.InsConst, 0), "no constant": code(api.InsVar, 0, api.InsSet, 0), "a condition": is(), "pairs in another order": code(api.InsConst, 0, api.InsConst, 0, api.InsSet, 0, api.InsSet, 0), "two targets": code(api.InsSet, 0, api.InsConst, 0),
		"a value of Size": code(api.InsConst, 2, api.InsSet, 0), "the value -1": code(api.InsConst, -1, api.InsSet, 0), "a variable too great": code(api.InsConst, 0, api.InsSet, 2), "the variable -1": code(api.InsConst, 0, api.InsSet, -1),
		"a timer too great": code(api.InsConst, 0, api.InsStart, 2), "the timer -1": code(api.InsConst, 0, api.InsStart, -1), "86401 seconds": code(api.InsConst, 86401, api.InsStart, 0), "-1 seconds": code(api.InsConst, -1, api.InsStart, 0),
		"three instructions": code(api.InsConst, 0, api.InsSet, 0, api.InsConst, 0), "402 instructions": slices.Repeat(code(api.InsConst, 0, api.InsSet, 0), 201), "an unknown Op": code(api.InsConst, 0, 12, 0), "the Op -1": code(-1, 0, api.InsSet, 0),
	} {
		p := full()
		p.Units[1].Action = l
		wantCheck(t, name+" in an action", p, api.ErrCode)
	}
}

// nest returns a condition of a depth: comparisons, one after the other, and then InsAnd for all of them.
func nest(depth int) []api.Instr {
	l := slices.Repeat(is(), depth-1)
	for range depth - 2 {
		l = append(l, api.Instr{Op: api.InsAnd})
	}
	return l
}

// P8.1: the limits of code and of lists.
func TestLimits(t *testing.T) {
	full400 := slices.Repeat(code(api.InsConst, 1, api.InsSet, 0), 200)
	p := full()
	p.Units[0].Trigger, p.Units[1].Action = nest(16), full400
	wantCheck(t, "the greatest depth and action", p, api.OK)
	wide := is()
	for len(wide)+4 <= 400 {
		wide = append(append(wide, is()...), api.Instr{Op: api.InsAnd})
	}
	p.Units[2].Guard = wide
	wantCheck(t, "the longest condition", p, api.OK)
	for _, test := range []struct {
		name  string
		limit int
		make  func(n int) api.Program
	}{
		{"variables", 1200, func(n int) api.Program { return api.Program{Vars: slices.Repeat([]api.Var{{Size: 1}}, n)} }},
		{"units", 400, func(n int) api.Program { return api.Program{Timers: 1, Units: make([]api.Unit, n)} }},
		{"laws", 20, func(n int) api.Program {
			return api.Program{Vars: []api.Var{{Size: 1}}, Laws: slices.Repeat([]api.LawCode{{Cond: is()}}, n)}
		}},
		{"pairs", 400, func(n int) api.Program {
			p := api.Program{Timers: 1, Units: make([]api.Unit, 30)}
			for winner := range 30 {
				for loser := range winner {
					if len(p.Over) < n {
						p.Over = append(p.Over, api.Pair{Winner: winner, Loser: loser})
					}
				}
			}
			return p
		}},
	} {
		wantCheck(t, test.name, test.make(test.limit), api.OK)
		wantCheck(t, "too many "+test.name, test.make(test.limit+1), api.ErrArg)
	}
}

// P8.1: bytes that are nearly those of a program.
func TestWrongBytes(t *testing.T) {
	for _, b := range [][]byte{
		nil, {}, {68}, {68, 66, 1}, {68, 66, 1, 1, 1, 1, 1, 1}, {68, 66, 1, 1, 1, 1, 1, 1, 140, 0}, {68, 66, 1, 1, 1, 1, 1, 1, 0, 139}, {68, 66, 1, 1, 1, 1, 1, 1, 0, 140, 0}, {0, 140},
	} {
		wantFormat(t, b)
	}
	for _, b := range [][]byte{
		{68, 66, 2, 1, 1, 1, 1, 1}, {68, 67, 1, 1, 1, 1, 1, 1}, {69, 66, 1, 1, 1, 1, 1, 1}, {68, 66, 1, 1, 1, 1, 1}, {68, 66, 1, 1, 1, 1, 1, 1, 1},
		{68, 66, 1, 0, 1, 1, 1, 1}, {68, 66, 1, 1, 0, 1, 1, 1}, {68, 66, 1, 1, 42, 1, 1, 1}, {68, 66, 1, 1, 1, 0, 1, 1}, {68, 66, 1, 1, 1, 1, 1, 0},
		{68, 66, 1, 129, 0, 1, 1, 1, 1}, {68, 66, 1, 1, 129, 0, 1, 1, 1}, {68, 66, 1, 1, 128, 1, 1, 1, 1}, {68, 66, 1, 1, 129, 128, 0, 1, 1, 1}, {68, 66, 1, 255, 255, 255, 255, 127, 1, 1, 1, 1}, {68, 66, 1, 129, 128, 128, 128, 128, 0, 1, 1, 1, 1}, {68, 66, 1, 1, 1, 1, 1, 255, 255, 255, 255, 255, 255, 255, 255, 255, 255, 1},
		{68, 66, 1, 2, 1, 2, 1, 1, 8, 0, 0, 1, 1, 1, 1}, {68, 66, 1, 2, 0, 2, 1, 1, 0, 0, 0, 1, 1, 1, 1}, {68, 66, 1, 2, 255, 255, 255, 255, 7, 2, 1, 1, 0, 0, 0, 1, 1, 1, 1}, {68, 66, 1, 2, 1, 1, 1, 1, 0, 0, 0, 1, 1, 1, 1},
		{68, 66, 1, 1, 2, 2, 1, 1, 1, 1, 2, 2, 1, 1, 1}, {68, 66, 1, 1, 2, 2, 1, 1, 1, 1, 3, 2, 1, 12, 1, 1, 1},
	} {
		wantFormat(t, withSum(b))
	}
}

// P8.1 and P8.2: random programs, right and wrong, are what the reference says.
func TestRandom(t *testing.T) {
	count := map[api.Errno]int{}
	for i := range 20000 {
		m := maker{rand.New(rand.NewSource(int64(i)))}
		p := m.program()
		for range i % 3 {
			m.spoil(&p)
		}
		want := refCheck(p)
		count[want]++
		wantCheck(t, "a random program", p, want)
		if want != api.OK {
			continue
		}
		b := bytecode.Encode(p)
		if !bytes.Equal(b, refEncode(p)) {
			t.Errorf("Encode(%+v) = %v, want %v", p, b, refEncode(p))
		}
		if got, err := bytecode.Decode(b); err != api.OK || !reflect.DeepEqual(normal(got), normal(p)) {
			t.Errorf("Decode(%v) = %+v, %v, want %+v", b, got, err, p)
		}
	}
	if count[api.OK] < 3000 || count[api.ErrArg] < 3000 || count[api.ErrCode] < 3000 {
		t.Errorf("%v programs are too few", count)
	}
}

// P8.1: random sequences have the depths that the reference says.
func TestRandomDepths(t *testing.T) {
	m := maker{rand.New(rand.NewSource(1))}
	for range 50000 {
		l := m.anyCode()
		_, want, ok := refStack(l)
		wantErr := api.OK
		if !ok {
			want, wantErr = 0, api.ErrCode
		}
		if got, err := bytecode.Depth(l); got != want || err != wantErr {
			t.Errorf("Depth(%v) = %v, %v, want %v, %v", l, got, err, want, wantErr)
		}
	}
}

// P8.1: bytes with a right checksum are decoded exactly if they are those of a program.
func TestRandomBytes(t *testing.T) {
	decoded := 0
	for i := range 60000 {
		m := maker{rand.New(rand.NewSource(int64(i)))}
		b := bytecode.Encode(m.program())
		b = b[:len(b)-2]
		for range 1 + m.Intn(2) {
			at := m.Intn(len(b))
			switch m.Intn(4) {
			case 0:
				b[at] = byte(m.Intn(256))
			case 1:
				b[at] += byte(m.Intn(3) - 1)
			case 2:
				b = slices.Delete(b, at, at+1)
			case 3:
				b = slices.Insert(b, at, byte(m.Intn(20)))
			}
		}
		b = withSum(b)
		want, ok := refDecode(b)
		if !ok {
			wantFormat(t, b)
			continue
		}
		decoded++
		if got, err := bytecode.Decode(b); err != api.OK || !reflect.DeepEqual(normal(got), normal(want)) || !bytes.Equal(bytecode.Encode(got), b) {
			t.Errorf("Decode(%v) = %+v, %v, want %+v", b, got, err, want)
		}
	}
	if decoded < 1000 {
		t.Errorf("%d programs are too few", decoded)
	}
}

// P1: Decode ends and does not panic, whatever the bytes are; what it returns has these bytes.
func FuzzDecode(f *testing.F) {
	f.Add([]byte{68, 66, 1, 1, 1, 1, 1, 1, 0, 140})
	f.Add(bytecode.Encode(full()))
	f.Fuzz(func(t *testing.T, b []byte) {
		for _, b := range [][]byte{b, withSum(b)} {
			p, err := bytecode.Decode(b)
			if _, ok := refDecode(b); ok != (err == api.OK) || ok && !bytes.Equal(bytecode.Encode(p), b) {
				t.Errorf("Decode(%v) = %+v, %v", b, p, err)
			}
		}
	})
}
