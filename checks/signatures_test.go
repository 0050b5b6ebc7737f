package checks

import (
	"domicile/active"
	"domicile/analyse"
	"domicile/api"
	"domicile/automata"
	"domicile/belief"
	"domicile/bytecode"
	"domicile/capability"
	"domicile/cause"
	"domicile/codegen"
	"domicile/crypto"
	"domicile/dbm"
	"domicile/delivery"
	"domicile/drift"
	"domicile/driver"
	"domicile/energy"
	"domicile/explain"
	"domicile/flash"
	"domicile/flow"
	"domicile/frame"
	"domicile/hours"
	"domicile/hub"
	"domicile/join"
	"domicile/lease"
	"domicile/lexer"
	"domicile/machine"
	"domicile/merge"
	"domicile/mesh"
	"domicile/parser"
	"domicile/printer"
	"domicile/quarantine"
	"domicile/repair"
	"domicile/replay"
	"domicile/revoke"
	"domicile/rules"
	"domicile/sandbox"
	"domicile/scenes"
	"domicile/script"
	"domicile/session"
	"domicile/shed"
	"domicile/symmetry"
	"domicile/translate"
	"domicile/typing"
	"domicile/units"
	"domicile/update"
	"domicile/zones"
)

// The calls of all layers have the signatures that their chapters list; otherwise this file does not compile.
var (
	_ func(text string) ([]api.Token, api.Errno, int) = lexer.Lex

	_ func(q api.Quantity) (int, int, api.Errno)               = units.Base
	_ func(a, b api.Quantity) (int, api.Errno)                 = units.Compare
	_ func(a, b api.Quantity) (api.Quantity, api.Errno)        = units.Add
	_ func(dim, value int) (api.Quantity, api.Errno)           = units.Canonical
	_ func(q api.Quantity) (int, api.Errno)                    = units.Seconds
	_ func(power, time api.Quantity) (api.Quantity, api.Errno) = units.Energy

	_ func(text string) (api.House, api.Errno, int) = parser.Parse

	_ func(h api.House) bool      = printer.Printable
	_ func(h api.House) string    = printer.Print
	_ func(r api.RuleText) string = printer.Rule

	_ func(l []api.Scene, names []string) ([]api.Setting, api.Errno) = scenes.Overlay
	_ func(l []api.Scene, names []string, r api.Ref) int             = scenes.Wins

	_ func(h api.House) []api.Fault            = typing.Check
	_ func(h api.House) (api.Model, api.Errno) = typing.Model

	_ func(m api.Model) bool                                             = rules.Valid
	_ func(a api.Atom, values []int) bool                                = rules.Holds
	_ func(m api.Model) api.State                                        = rules.Start
	_ func(m api.Model, s api.State) []api.Input                         = rules.Inputs
	_ func(m api.Model, s api.State, in api.Input) (api.Step, api.Errno) = rules.Apply
	_ func(m api.Model, s api.State) []int                               = rules.Broken
	_ func(m api.Model, l []api.Input) ([]api.Step, api.Errno)           = rules.Run

	_ func(p api.Program) api.Errno           = bytecode.Check
	_ func(p api.Program) []byte              = bytecode.Encode
	_ func(b []byte) (api.Program, api.Errno) = bytecode.Decode
	_ func(l []api.Instr) (int, api.Errno)    = bytecode.Depth

	_ func(l []api.Atom) []api.Instr             = codegen.Cond
	_ func(m api.Model) (api.Program, api.Errno) = codegen.Compile

	_ func(l []api.Instr, values []int) (bool, api.Errno)                  = machine.Eval
	_ func(p api.Program) api.State                                        = machine.Start
	_ func(p api.Program, s api.State, in api.Input) (api.Step, api.Errno) = machine.Apply

	_ func(z api.Zone) bool                          = dbm.Valid
	_ func(n int) api.Zone                           = dbm.Zero
	_ func(n int) api.Zone                           = dbm.All
	_ func(z api.Zone) (api.Zone, bool)              = dbm.Close
	_ func(z api.Zone, i, j, c int) (api.Zone, bool) = dbm.Meet
	_ func(z api.Zone) api.Zone                      = dbm.Up
	_ func(z api.Zone, i int) api.Zone               = dbm.Reset
	_ func(z api.Zone, i int) api.Zone               = dbm.Free
	_ func(a, b api.Zone) bool                       = dbm.Includes
	_ func(z api.Zone, p []int) bool                 = dbm.Contains
	_ func(z api.Zone) ([]int, bool)                 = dbm.Point
	_ func(z api.Zone, most []int) api.Zone          = dbm.Widen

	_ func(a api.Automaton) bool                                            = automata.Valid
	_ func(a api.Automaton) api.Config                                      = automata.Start
	_ func(a api.Automaton, c api.Config, n int) (api.Config, api.Errno)    = automata.Wait
	_ func(a api.Automaton, c api.Config, edge int) (api.Config, api.Errno) = automata.Take
	_ func(a api.Automaton, c api.Config) []int                             = automata.Enabled
	_ func(a api.Automaton, l []api.Move) ([]api.Config, api.Errno)         = automata.Run
	_ func(a api.Automaton) []int                                           = automata.Greatest

	_ func(m api.Model) [][]int                             = translate.Groups
	_ func(m api.Model, group []int) (api.Model, api.Errno) = translate.Part
	_ func(m api.Model) (api.Image, api.Errno)              = translate.Build

	_ func(a api.Automaton) ([]api.Node, api.Errno)     = zones.Explore
	_ func(l []api.Node, i int) []int                   = zones.Path
	_ func(a api.Automaton, loc int) ([]int, api.Errno) = zones.Reach
	_ func(a api.Automaton) ([]bool, api.Errno)         = zones.Usable

	_ func(a api.Automaton) [][]bool                = active.Active
	_ func(z api.Zone, active []bool) api.Zone      = active.Drop
	_ func(a api.Automaton) ([]api.Node, api.Errno) = active.Explore

	_ func(m api.Model, x, y int) (api.Model, api.Errno) = symmetry.Exchange
	_ func(a, b api.Model) bool                          = symmetry.Equal
	_ func(m api.Model) [][]int                          = symmetry.Classes
	_ func(m api.Model, s api.State) api.State           = symmetry.Canon

	_ func(a api.Automaton, path []int) ([]int, bool)               = replay.Times
	_ func(g api.Image, path, waits []int) ([]api.Input, api.Errno) = replay.Inputs
	_ func(l []api.Input) int                                       = replay.Length
	_ func(l []api.Input) []api.Input                               = replay.Clean

	_ func(m api.Model) ([]api.Finding, api.Errno)      = analyse.Findings
	_ func(m api.Model, f api.Finding, s api.Step) bool = analyse.Shows
	_ func(m api.Model, f api.Finding) bool             = analyse.Holds

	_ func(m api.Model, rules []int) (api.Model, api.Errno) = cause.Restrict
	_ func(m api.Model, f api.Finding) ([]int, api.Errno)   = cause.Smallest

	_ func(m api.Model, winner, loser int) (api.Model, api.Errno)    = repair.Prefer
	_ func(m api.Model, rule int, a api.Atom) (api.Model, api.Errno) = repair.Restrain
	_ func(m api.Model) (api.Model, []api.Pair, api.Errno)           = repair.Repair

	_ func(m api.Model) ([]bool, []bool)           = flow.Hidden
	_ func(m api.Model) []api.Leak                 = flow.Leaks
	_ func(m api.Model, s api.State) []int         = flow.View
	_ func(m api.Model, l []api.Input) []api.Input = flow.Purge

	_ func(l []api.Window) bool                         = hours.Valid
	_ func(l []api.Window, minute int) bool             = hours.Quiet
	_ func(l []api.Window, minute int) (int, bool)      = hours.Next
	_ func(l []api.Window, from, till int) []api.Change = hours.Changes

	_ func(s api.Session) bool                                = session.Valid
	_ func(s api.Session, state int, e api.Event) (int, bool) = session.Next
	_ func(s api.Session, l []api.Event) (int, bool)          = session.Follow
	_ func(s api.Session) api.Session                         = session.Dual
	_ func(a, b api.Session) bool                             = session.Same
	_ func(s api.Session) api.Session                         = session.Least

	_ func(d api.Driver) bool                     = driver.Valid
	_ func(d api.Driver) []byte                   = driver.Encode
	_ func(b []byte) (api.Driver, api.Errno)      = driver.Decode
	_ func(d api.Driver, s api.Session) api.Errno = driver.Check

	_ func(d api.Driver, cells, in []int, fuel int) api.Outcome                        = sandbox.Run
	_ func(d api.Driver, s api.Session, cells, in []int, fuel int) (api.Outcome, bool) = sandbox.Guard

	_ func(m api.Model, device int) (api.Model, api.Errno) = quarantine.Remove
	_ func(m api.Model, device int) []int                  = quarantine.Depend

	_ func(nums []int) int                                   = crypto.Sum
	_ func(key int, nums []int) int                          = crypto.Tag
	_ func(secret int) int                                   = crypto.Public
	_ func(secret, public int) int                           = crypto.Shared
	_ func(l [][]int) int                                    = crypto.Root
	_ func(l [][]int, index int) []int                       = crypto.Path
	_ func(list []int, index int, path []int) (int, [][]int) = crypto.Climb

	_ func(f api.Frame) bool                            = frame.Valid
	_ func(key int, f api.Frame) (api.Frame, api.Errno) = frame.Seal
	_ func(key int, f api.Frame) api.Errno              = frame.Open
	_ func(f api.Frame) []byte                          = frame.Encode
	_ func(b []byte) (api.Frame, api.Errno)             = frame.Decode
	_ func() api.Seqs                                   = frame.Fresh
	_ func(w api.Seqs, seq int) (api.Seqs, api.Errno)   = frame.Accept

	_ func(m api.Mesh) bool                                                                            = mesh.Valid
	_ func(n api.MeshNode, time int) bool                                                              = mesh.Awake
	_ func(m api.Mesh, l []api.Sending, faults []api.RadioFault, until int) ([]api.Arrival, api.Errno) = mesh.Run
	_ func(m api.Mesh, from int) []int                                                                 = mesh.Hops

	_ func(code, secret int) (api.Joiner, api.Hello)                     = join.Device
	_ func(code, secret int) api.Joiner                                  = join.Hub
	_ func(j api.Joiner, h api.Hello) (api.Joiner, api.Hello, api.Errno) = join.Receive

	_ func(key, version, size int, data []int) (api.Manifest, []api.Piece, api.Errno) = update.Split
	_ func(key, version int, m api.Manifest) (api.Slot, api.Errno)                    = update.Begin
	_ func(s api.Slot, p api.Piece) (api.Slot, api.Errno)                             = update.Add
	_ func(s api.Slot) []int                                                          = update.Missing
	_ func(s api.Slot) ([]int, api.Errno)                                             = update.Join

	_ func(s api.Sender, fence, variable, value int) (api.Sender, api.Errno) = delivery.Send
	_ func(s api.Sender, seq int) api.Sender                                 = delivery.Confirm
	_ func(values []int) api.Receiver                                        = delivery.Fresh
	_ func(r api.Receiver, o api.Order) (api.Receiver, bool, api.Errno)      = delivery.Receive

	_ func(value int) api.Belief                                 = belief.Known
	_ func(b api.Belief, o api.Order) (api.Belief, api.Errno)    = belief.Sent
	_ func(b api.Belief, seq int) (api.Belief, api.Errno)        = belief.Confirmed
	_ func(b api.Belief, value, top int) (api.Belief, api.Errno) = belief.Reported
	_ func(b api.Belief, value int) bool                         = belief.Can
	_ func(b api.Belief) (int, bool)                             = belief.Surely

	_ func(key, id int) api.Cap                               = capability.Mint
	_ func(c api.Cap, v api.Caveat) (api.Cap, api.Errno)      = capability.Narrow
	_ func(key int, c api.Cap) bool                           = capability.Genuine
	_ func(key int, c api.Cap) []int                          = capability.Chain
	_ func(c api.Cap, a api.Ask, used int) api.Errno          = capability.Permits
	_ func(key int, c api.Cap, a api.Ask, used int) api.Errno = capability.Check

	_ func(r api.Revoked, tag int) (api.Revoked, api.Errno)                  = revoke.Add
	_ func(a, b api.Revoked) (api.Revoked, api.Errno)                        = revoke.Merge
	_ func(r api.Revoked, tag int) bool                                      = revoke.Has
	_ func(key int, r api.Revoked, c api.Cap, a api.Ask, used int) api.Errno = revoke.Check

	_ func(size int) api.Flash                                = flash.Erased
	_ func(f api.Flash) [][]byte                              = flash.Records
	_ func(f api.Flash, l [][]byte) (api.Flash, api.Errno)    = flash.Compact
	_ func(f api.Flash, record []byte) (api.Flash, api.Errno) = flash.Append
	_ func(a, b api.Flash) []api.Flash                        = flash.Steps

	_ func(seconds, drift int) (api.Span, api.Errno)               = drift.Since
	_ func(set api.Span, seconds, drift int) (api.Span, api.Errno) = drift.Now
	_ func(a, b api.Span) (api.Span, bool)                         = drift.Meet
	_ func(a, b api.Span) bool                                     = drift.Before
	_ func(l []int) []int                                          = drift.Back

	_ func(v api.Voter, l api.Lease, now int) (api.Voter, bool)                                    = lease.Vote
	_ func(l []api.Voter, answer []bool, hub, now, length int) (api.Lease, api.Errno)              = lease.Propose
	_ func(l []api.Voter, answer []bool, hub, now, length int) ([]api.Voter, api.Lease, api.Errno) = lease.Elect
	_ func(l api.Lease, now int) bool                                                              = lease.Holds

	_ func(l []api.Entry) bool                                      = merge.Valid
	_ func(a, b []api.Entry) ([]api.Entry, api.Errno)               = merge.Merge
	_ func(a, b []api.Entry) []api.Entry                            = merge.Missing
	_ func(base, a, b []api.Edit) ([]api.Edit, []string, api.Errno) = merge.Rules

	_ func(g api.Grid, b api.Battery, l []api.Load) bool                             = energy.Valid
	_ func(g api.Grid, b api.Battery, l []api.Load, s api.Schedule) (int, api.Errno) = energy.Cost
	_ func(g api.Grid, b api.Battery, l []api.Load) (api.Schedule, api.Errno)        = energy.Best

	_ func(l []api.Consumer, limit int) ([]bool, api.Errno)                        = shed.Keep
	_ func(l []api.Consumer, before []bool, limit, margin int) ([]bool, api.Errno) = shed.Step

	_ func(m api.Model, l []api.Input, step, command int) (api.Why, api.Errno) = explain.Tree
	_ func(m api.Model, l []api.Input, step, command int, w api.Why) bool      = explain.Check
	_ func(w api.Why) []int                                                    = explain.Leaves

	_ func(number, key, size int) *hub.Hub          = hub.New
	_ func(self *hub.Hub, r api.Request) api.Answer = (*hub.Hub).Do
	_ func(*hub.Hub) []api.Entry                    = (*hub.Hub).Journal
	_ func(self *hub.Hub, l []api.Entry) api.Errno  = (*hub.Hub).Merge

	_ func(number, key, size int) *script.Session      = script.New
	_ func(self *script.Session, line string) []string = (*script.Session).Do
	_ func(number, key, size int, text string) string  = script.Run
)
