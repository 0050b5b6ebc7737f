package bytecode_test

import (
	"bytes"
	"fmt"
	"math/rand"
	"reflect"
	"slices"
	"testing"

	"domicile/api"
	"domicile/bytecode"
)

// programs calls a function with random valid programs.
func programs(seed int64, count int, each func(m maker, p api.Program)) {
	for i := range count {
		m := maker{rand.New(rand.NewSource(seed*1000000 + int64(i)))}
		if p := m.program(); refCheck(p) == api.OK {
			each(m, p)
		}
	}
}

// P8.2: different programs have different bytes.
func TestDifferent(t *testing.T) {
	seen := map[string]api.Program{}
	programs(1, 5000, func(m maker, p api.Program) {
		other := p
		other.Timers++
		for _, p := range []api.Program{p, other} {
			b := string(bytecode.Encode(p))
			if old, ok := seen[b]; ok && b != "" && !reflect.DeepEqual(normal(old), normal(p)) {
				t.Errorf("%+v and %+v have the same bytes", old, p)
			}
			seen[b] = p
		}
	})
}

// P8.3: with one byte changed, and with more or less bytes at the end, there is no program.
func TestDamage(t *testing.T) {
	programs(2, 60, func(m maker, p api.Program) {
		b := bytecode.Encode(p)
		for at := range b {
			for _, by := range []byte{1, 255, 128, byte(1 + m.Intn(255))} {
				changed := slices.Clone(b)
				changed[at] += by
				wantFormat(t, changed)
			}
			wantFormat(t, b[:at])
		}
		for _, more := range [][]byte{{0}, {1}, {0, 0}, {0, 140}, b, b[len(b)-2:]} {
			wantFormat(t, slices.Concat(b, more))
		}
	})
	b := bytecode.Encode(full())
	for at := range b {
		for by := range 255 {
			changed := slices.Clone(b)
			changed[at] += byte(by + 1)
			wantFormat(t, changed)
		}
	}
}

// P8.4: the depth of two conditions with InsAnd, and conditions without their last instruction.
func TestConditionDepth(t *testing.T) {
	depth := func(l []api.Instr) int {
		d, err := bytecode.Depth(l)
		if err != api.OK {
			t.Fatalf("Depth(%v): %v", l, err)
		}
		return d
	}
	programs(3, 3000, func(m maker, p api.Program) {
		a, b := m.condition(p), m.condition(p)
		both := slices.Concat(a, b, code(api.InsAnd, 0))
		if got, want := depth(both), max(depth(a), depth(b)+1); got != want {
			t.Errorf("%v and %v have the depth %v, want %v", a, b, got, want)
		}
		law := func(l []api.Instr) api.Program {
			return api.Program{Vars: p.Vars, Laws: []api.LawCode{{Cond: l}}}
		}
		if bytecode.Check(law(a)) != api.OK || (bytecode.Check(law(both)) == api.OK) != (depth(both) <= 16) || bytecode.Check(law(a[:len(a)-1])) != api.ErrCode {
			t.Errorf("%v, %v and %v are conditions or not", a, both, a[:len(a)-1])
		}
	})
}

// P8.5: a program is valid exactly if its parts are, each with its variables and timers, and its preferences are.
func TestParts(t *testing.T) {
	valid, not := 0, 0
	for i := range 8000 {
		m := maker{rand.New(rand.NewSource(int64(i)))}
		p := m.program()
		for range i % 3 {
			m.spoil(&p)
		}
		parts := bytecode.Check(api.Program{Vars: p.Vars, Timers: p.Timers}) == api.OK
		for _, u := range p.Units {
			parts = parts && bytecode.Check(api.Program{Vars: p.Vars, Timers: p.Timers, Units: []api.Unit{u}}) == api.OK
		}
		for _, l := range p.Laws {
			parts = parts && bytecode.Check(api.Program{Vars: p.Vars, Timers: p.Timers, Laws: []api.LawCode{l}}) == api.OK
		}
		parts = parts && bytecode.Check(api.Program{Timers: 1, Units: make([]api.Unit, len(p.Units)), Over: p.Over}) == api.OK
		if whole := bytecode.Check(p) == api.OK; whole != parts {
			t.Errorf("%+v is valid: %v, its parts: %v", p, whole, parts)
		} else if whole {
			valid++
		} else {
			not++
		}
	}
	if valid < 1000 || not < 1000 {
		t.Errorf("%d valid programs and %d others are too few", valid, not)
	}
}

// P8.6: more variables, more timers and greater sizes keep a program valid.
func TestSizes(t *testing.T) {
	programs(5, 3000, func(m maker, p api.Program) {
		more := p
		more.Vars = append(slices.Clone(p.Vars), api.Var{Size: 3, Device: -1})
		more.Timers = min(40, p.Timers+m.Intn(3))
		v := m.Intn(len(more.Vars))
		more.Vars[v].Size = min(16, more.Vars[v].Size+m.Intn(5))
		if err := bytecode.Check(more); err != api.OK {
			t.Errorf("%+v is valid, and %+v not", p, more)
		}
	})
}

// P8.7: ErrArg does not depend on the instructions, but on whether triggers and conditions are empty.
func TestErrorsOfArguments(t *testing.T) {
	args := 0
	for i := range 6000 {
		m := maker{rand.New(rand.NewSource(int64(i)))}
		p := m.program()
		for range i % 3 {
			m.spoil(&p)
		}
		other := p
		other.Units, other.Laws = slices.Clone(p.Units), slices.Clone(p.Laws)
		replace := func(l []api.Instr) []api.Instr {
			if len(l) == 0 {
				return nil
			}
			return append(m.anyCode(), make([]api.Instr, 1+m.Intn(2)*500)...)
		}
		for k, u := range other.Units {
			other.Units[k].Trigger, other.Units[k].Guard, other.Units[k].Action = replace(u.Trigger), m.anyCode(), m.anyCode()
		}
		for k, l := range other.Laws {
			other.Laws[k].Cond = replace(l.Cond)
		}
		a, b := bytecode.Check(p) == api.ErrArg, bytecode.Check(other) == api.ErrArg
		if a != b {
			t.Errorf("%+v has ErrArg: %v, with other code: %v", p, a, b)
		}
		if a {
			args++
		}
	}
	if args < 500 {
		t.Errorf("%d programs with ErrArg are too few", args)
	}
}

// P3: equal programs have equal results, arguments are not changed, and changed results change nothing.
func TestIndependence(t *testing.T) {
	programs(6, 300, func(_ maker, p api.Program) {
		before := fmt.Sprintf("%#v", p)
		b := bytecode.Encode(p)
		kept := slices.Clone(b)
		decoded, _ := bytecode.Decode(b)
		clear(b)
		again, _ := bytecode.Decode(kept)
		if !reflect.DeepEqual(decoded, again) || !bytes.Equal(bytecode.Encode(p), kept) || fmt.Sprintf("%#v", p) != before {
			t.Errorf("%s: %v, and then %v", before, decoded, again)
		}
		clear(decoded.Vars)
		if again, _ = bytecode.Decode(kept); !reflect.DeepEqual(normal(again), normal(p)) {
			t.Errorf("%s is decoded as %+v", before, again)
		}
	})
}
