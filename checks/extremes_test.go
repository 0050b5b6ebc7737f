package checks

import (
	"fmt"
	"math/rand"
	"reflect"
	"runtime"
	"strings"
	"testing"
	"time"

	"domicile/active"
	"domicile/analyse"
	"domicile/api"
	"domicile/automata"
	"domicile/belief"
	"domicile/bytecode"
	"domicile/capability"
	"domicile/cause"
	"domicile/codegen"
	"domicile/crypto"
	"domicile/dbm"
	"domicile/delivery"
	"domicile/drift"
	"domicile/driver"
	"domicile/energy"
	"domicile/explain"
	"domicile/flash"
	"domicile/flow"
	"domicile/frame"
	"domicile/hours"
	"domicile/hub"
	"domicile/join"
	"domicile/lease"
	"domicile/lexer"
	"domicile/machine"
	"domicile/merge"
	"domicile/mesh"
	"domicile/parser"
	"domicile/printer"
	"domicile/quarantine"
	"domicile/repair"
	"domicile/replay"
	"domicile/revoke"
	"domicile/rules"
	"domicile/sandbox"
	"domicile/scenes"
	"domicile/script"
	"domicile/session"
	"domicile/shed"
	"domicile/symmetry"
	"domicile/translate"
	"domicile/typing"
	"domicile/units"
	"domicile/update"
	"domicile/zones"
)

// calls returns the calls of all layers.
func calls() []any {
	return []any{
		lexer.Lex, units.Base, units.Compare, units.Add, units.Canonical, units.Seconds, units.Energy, parser.Parse,
		printer.Printable, printer.Print, printer.Rule, scenes.Overlay, scenes.Wins, typing.Check, typing.Model, rules.Valid,
		rules.Holds, rules.Start, rules.Inputs, rules.Apply, rules.Broken, rules.Run, bytecode.Check, bytecode.Encode,
		bytecode.Decode, bytecode.Depth, codegen.Cond, codegen.Compile, machine.Eval, machine.Start, machine.Apply, dbm.Valid,
		dbm.Zero, dbm.All, dbm.Close, dbm.Meet, dbm.Up, dbm.Reset, dbm.Free, dbm.Includes,
		dbm.Contains, dbm.Point, dbm.Widen, automata.Valid, automata.Start, automata.Wait, automata.Take, automata.Enabled,
		automata.Run, automata.Greatest, translate.Groups, translate.Part, translate.Build, zones.Explore, zones.Path, zones.Reach,
		zones.Usable, active.Active, active.Drop, active.Explore, symmetry.Exchange, symmetry.Equal, symmetry.Classes, symmetry.Canon,
		replay.Times, replay.Inputs, replay.Length, replay.Clean, analyse.Findings, analyse.Shows, analyse.Holds, cause.Restrict,
		cause.Smallest, repair.Prefer, repair.Restrain, repair.Repair, flow.Hidden, flow.Leaks, flow.View, flow.Purge,
		hours.Valid, hours.Quiet, hours.Next, hours.Changes, session.Valid, session.Next, session.Follow, session.Dual,
		session.Same, session.Least, driver.Valid, driver.Encode, driver.Decode, driver.Check, sandbox.Run, sandbox.Guard,
		quarantine.Remove, quarantine.Depend, crypto.Sum, crypto.Tag, crypto.Public, crypto.Shared, crypto.Root, crypto.Path,
		crypto.Climb, frame.Valid, frame.Seal, frame.Open, frame.Encode, frame.Decode, frame.Fresh, frame.Accept,
		mesh.Valid, mesh.Awake, mesh.Run, mesh.Hops, join.Device, join.Hub, join.Receive, update.Split,
		update.Begin, update.Add, update.Missing, update.Join, delivery.Send, delivery.Confirm, delivery.Fresh, delivery.Receive,
		belief.Known, belief.Sent, belief.Confirmed, belief.Reported, belief.Can, belief.Surely, capability.Mint, capability.Narrow,
		capability.Genuine, capability.Chain, capability.Permits, capability.Check, revoke.Add, revoke.Merge, revoke.Has, revoke.Check,
		flash.Erased, flash.Records, flash.Compact, flash.Append, flash.Steps, drift.Since, drift.Now, drift.Meet,
		drift.Before, drift.Back, lease.Vote, lease.Propose, lease.Elect, lease.Holds, merge.Valid, merge.Merge,
		merge.Missing, merge.Rules, energy.Valid, energy.Cost, energy.Best, shed.Keep, shed.Step, explain.Tree,
		explain.Check, explain.Leaves, hub.New, script.New, script.Run, (*hub.Hub).Do,
		(*hub.Hub).Journal, (*hub.Hub).Merge, (*script.Session).Do,
	}
}

// maker makes up arguments: from those that it knows, mostly with something changed, or at random.
type maker struct {
	*rand.Rand
	known map[reflect.Type][]reflect.Value
}

func (m *maker) chance(n int) bool { return m.Intn(n) == 0 }

func (m *maker) number() int64 {
	if m.chance(4) {
		return []int64{-1 << 63, 1<<63 - 1, -1, 1 << 40, 1000000000, 1000000001, 2147483646, 2147483647, -2147483648, 86400, 86401, 4096, 400, 401}[m.Intn(14)]
	}
	return int64(m.Intn(12))
}

func (m *maker) text() string {
	b := make([]byte, m.Intn(6))
	for i := range b {
		b[i] = byte(m.Intn(256))
	}
	return []string{string(b), "", "a", "hall", "status", "rule r priority 1 when m.state is on do l.power = on;", "set 2 1"}[m.Intn(7)]
}

// value returns a value of a type.
func (m *maker) value(t reflect.Type) reflect.Value {
	if l := m.known[t]; len(l) > 0 && !m.chance(4) {
		v := cloned(l[m.Intn(len(l))])
		if m.chance(2) {
			m.change(v)
		}
		return v
	}
	v := reflect.New(t).Elem()
	m.fill(v)
	return v
}

func (m *maker) fill(v reflect.Value) {
	switch v.Kind() {
	case reflect.Int, reflect.Uint8:
		m.change(v)
	case reflect.Bool:
		v.SetBool(m.chance(2))
	case reflect.String:
		v.SetString(m.text())
	case reflect.Slice:
		n := m.Intn(4)
		if v.Type().Elem() == reflect.TypeFor[api.Why]() {
			// Trees must not grow without an end.
			n = m.Intn(4) / 2 * m.Intn(2)
		}
		v.Set(reflect.MakeSlice(v.Type(), n, 4))
		for i := range v.Len() {
			m.fill(v.Index(i))
		}
	case reflect.Array:
		for i := range v.Len() {
			m.fill(v.Index(i))
		}
	case reflect.Struct:
		for i := range v.NumField() {
			m.fill(v.Field(i))
		}
	case reflect.Pointer:
		v.Set(reflect.Zero(v.Type()))
	default:
		panic("no value of " + v.Type().String())
	}
}

// change changes a value somewhere, or leaves it as it is.
func (m *maker) change(v reflect.Value) {
	switch v.Kind() {
	case reflect.Int:
		if n := m.number(); m.chance(2) {
			v.SetInt(n)
		} else {
			v.SetInt(v.Int() + n%3 - 1)
		}
	case reflect.Uint8:
		v.SetUint(uint64(m.Intn(256)))
	case reflect.Bool, reflect.String:
		m.fill(v)
	case reflect.Slice:
		if n := v.Len(); n > 0 && m.chance(6) {
			v.Set(v.Slice(0, n-1))
		} else if n > 0 && m.chance(6) {
			v.Set(reflect.Append(v, cloned(v.Index(m.Intn(n)))))
		} else if n > 0 {
			m.change(v.Index(m.Intn(n)))
		}
	case reflect.Array:
		m.change(v.Index(m.Intn(v.Len())))
	case reflect.Struct:
		m.change(v.Field(m.Intn(v.NumField())))
	}
}

// cloned returns a value that shares no slices with one.
func cloned(v reflect.Value) reflect.Value {
	c := reflect.New(v.Type()).Elem()
	switch v.Kind() {
	case reflect.Slice:
		if !v.IsNil() {
			c.Set(reflect.MakeSlice(v.Type(), v.Len(), v.Len()))
			for i := range v.Len() {
				c.Index(i).Set(cloned(v.Index(i)))
			}
		}
	case reflect.Array:
		for i := range v.Len() {
			c.Index(i).Set(cloned(v.Index(i)))
		}
	case reflect.Struct:
		for i := range v.NumField() {
			c.Field(i).Set(cloned(v.Field(i)))
		}
	default:
		c.Set(v)
	}
	return c
}

// keep remembers a result, if it is not too large.
func (m *maker) keep(v reflect.Value) {
	if v.Kind() == reflect.Pointer || len(fmt.Sprint(v)) > 3000 {
		return
	}
	l := append(m.known[v.Type()], cloned(v))
	if len(l) > 60 {
		l = l[1+m.Intn(3):]
	}
	m.known[v.Type()] = l
}

// returnsMore says which calls return more than an error with an error.
func returnsMore(name string) bool {
	for _, other := range []string{"lexer.Lex", "parser.Parse", "frame.Accept", "update.Add", "delivery.Receive", "lease.Elect"} {
		if strings.HasSuffix(name, "/"+other) {
			return true
		}
	}
	return false
}

// call calls a function, and returns its results and the panic, if there was one.
func call(f reflect.Value, args []reflect.Value) (results []reflect.Value, failure any) {
	defer func() { failure = recover() }()
	return f.Call(args), nil
}

func show(l []reflect.Value) string {
	var b strings.Builder
	for _, v := range l {
		fmt.Fprintf(&b, "%+v ", v)
	}
	return b.String()
}

// seeds returns a maker that knows some values that are well-formed.
func seeds() *maker {
	m := &maker{Rand: rand.New(rand.NewSource(1)), known: map[reflect.Type][]reflect.Value{}}
	text := "room hall; kind motion { state: off or on sensor private start off; } kind lamp { power: off or on shown start off; }\n" +
		"device m: motion in hall; device l: lamp in hall; timer t; person p; mode day; mode night; quiet 22:00 to 6:00; scene s layer 1 { l.power = on; }\n" +
		"rule r priority 1 when m.state is on if l.power is off do l.power = on, start t 5 s; rule q priority 1 when timer t do l.power = off; law w never l.power is on for 5 s;\n"
	house, _, _ := parser.Parse(text)
	model, _ := typing.Model(house)
	program, _ := codegen.Compile(model)
	image, _ := translate.Build(model)
	fresh := delivery.Fresh([]int{1, 2})
	capOf := capability.Mint(5, 1)
	manifest, pieces, _ := update.Split(5, 2, 2, []int{1, 2, 3})
	slot, _ := update.Begin(5, 1, manifest)
	memory, _ := flash.Append(flash.Erased(32), []byte{1, 2})
	device, hello := join.Device(5, 6)
	for _, v := range []any{
		text, house, model, rules.Start(model), program, image, image.Automaton, fresh, capOf, manifest, pieces[0], slot, memory, device, hello, belief.Known(3), frame.Fresh(), answerer(3), answering(),
		api.Mesh{Nodes: []api.MeshNode{{Awake: 1, Cycle: 1, Duty: 5}, {Awake: 1, Cycle: 2, Duty: 5}}, Links: []api.Link{{A: 0, B: 1, Delay: 1}}}, api.Grid{Fuse: 9, Base: []int{1, 2}, Price: []int{3, 4}}, api.Battery{Capacity: 3, Power: 2, Charge: 1},
		[]api.Load{{Power: 2, Length: 1, Last: 1}}, []api.Consumer{{Power: 3, Priority: 2}}, []api.Voter{{}, {}}, []bool{true, true}, []api.Window{{From: 5, To: 9}}, []api.Entry{{Kind: api.EntTake, Nums: []int{1}}}, []api.Edit{{Rule: "a", Text: "b"}},
		api.Input{Kind: api.InSet, Var: 3, Value: 1}, []api.Input{{Kind: api.InSet, Var: 3, Value: 1}, {Kind: api.InWait, Seconds: 5}, {Kind: api.InExpire}}, api.Ask{Var: 3, Value: 1}, api.Order{Seq: 1}, api.Sender{Next: 2},
	} {
		m.keep(reflect.ValueOf(v))
	}
	return m
}

// P1, P3: every call returns, also with strange arguments, does not change them, and returns the same again; with an error, its other results are zero.
func TestAllCalls(t *testing.T) {
	m := seeds()
	failed, succeeded := 0, 0
	for range 300 {
		for _, c := range calls() {
			f := reflect.ValueOf(c)
			name := runtime.FuncForPC(f.Pointer()).Name()
			var args []reflect.Value
			for i := range f.Type().NumIn() {
				args = append(args, m.value(f.Type().In(i)))
			}
			before := show(args)
			start := time.Now()
			results, failure := call(f, args)
			if took := time.Since(start); failure != nil || took > 20*time.Second {
				t.Fatalf("%s(%s): %v after %v", name, before, failure, took)
			}
			text, after := show(results), show(args)
			if after != before {
				t.Fatalf("%s(%s) changes its arguments to %s", name, before, after)
			}
			if again, _ := call(f, args); show(again) != text && !strings.HasSuffix(name, ".New") {
				t.Fatalf("%s(%s) = %s, then %s", name, before, text, show(again))
			}
			failed, succeeded = failed+1, succeeded+1
			if err, ok := errorIn(results); ok && err == api.OK {
				failed--
			} else if ok {
				succeeded--
				for _, r := range results {
					if _, isErr := r.Interface().(api.Errno); !isErr && !isZero(r) && !returnsMore(name) {
						t.Fatalf("%s(%s) = %s", name, before, text)
					}
				}
			}
			for _, r := range results {
				m.keep(r)
			}
		}
	}
	if failed < 500 || succeeded < 1000 {
		t.Errorf("the test covers too little: %d, %d", failed, succeeded)
	}
}

func errorIn(results []reflect.Value) (api.Errno, bool) {
	for _, r := range results {
		if err, ok := r.Interface().(api.Errno); ok {
			return err, true
		}
	}
	return api.OK, false
}

// isZero reports whether a value is zero; an empty slice is.
func isZero(v reflect.Value) bool {
	return fmt.Sprintf("%+v", v) == fmt.Sprintf("%+v", reflect.Zero(v.Type()))
}
