package script

import (
	"strconv"
	"strings"

	"domicile/api"
)

// errorNames are the names of the error numbers, in their order.
var errorNames = [...]string{
	"OK", "ErrArg", "ErrLimit", "ErrChar", "ErrNumber", "ErrEnd", "ErrSyntax", "ErrUnit", "ErrName", "ErrTwice", "ErrType", "ErrRange", "ErrCode", "ErrFuel", "ErrProtocol", "ErrTag",
	"ErrReplay", "ErrProof", "ErrRight", "ErrUses", "ErrTime", "ErrRevoked", "ErrLease", "ErrFence", "ErrFormat", "ErrConflict", "ErrLoop", "ErrNone", "ErrState", "ErrIdle", "ErrFull", "ErrStale",
}

func errorLine(err api.Errno) []string { return []string{"error " + errorNames[err]} }

// output collects the lines of an output; the line that is being written is in the builder.
type output struct {
	strings.Builder
	lines []string
}

// words writes words with one blank between them.
func (o *output) words(list ...string) *output {
	for _, word := range list {
		if o.Len() > 0 {
			o.WriteByte(' ')
		}
		o.WriteString(word)
	}
	return o
}

// nums writes numbers like words.
func (o *output) nums(list ...int) *output {
	for _, n := range list {
		o.words(strconv.Itoa(n))
	}
	return o
}

// end ends a line.
func (o *output) end() {
	o.lines = append(o.lines, o.String())
	o.Reset()
}

func (o *output) status(s api.Status) {
	running, safe := "idle", "unsafe"
	if s.Running {
		running = "running"
	}
	if s.Safe {
		safe = "safe"
	}
	o.words(running, safe, "steps").nums(s.Steps).words("fence").nums(s.Fence)
	o.words("values").nums(s.Values...).words("quarantined").nums(s.Quarantined...).end()
}

func (o *output) entry(e api.Entry) {
	o.words("entry").nums(e.Hub, e.Seq, e.Time, e.Kind).nums(e.Nums...).words("bytes").nums(len(e.Text)).end()
}

// answer writes the commands and findings of an answer.
func (o *output) answer(a api.Answer) {
	for _, c := range a.Commands {
		o.words("rule").nums(c.Rule).words("sets").nums(c.Var).words("to").nums(c.Value).end()
	}
	for _, f := range a.Findings {
		o.finding(f)
	}
	if len(a.Commands)+len(a.Findings) == 0 {
		o.words("ok").end()
	}
}

func (o *output) finding(f api.Finding) {
	switch f.Kind {
	case api.FindClash:
		o.words("clash").nums(f.First, f.Second, f.Var)
	case api.FindEndless:
		o.words("endless").nums(f.First)
	case api.FindLaw:
		o.words("law").nums(f.Law)
	default:
		o.words("dead").nums(f.First)
	}
	for i, in := range f.Run {
		if i == 0 {
			o.words("after")
		} else {
			o.WriteByte(',')
		}
		o.input(in)
	}
	o.end()
}

func (o *output) input(in api.Input) {
	switch in.Kind {
	case api.InSet:
		o.words("set").nums(in.Var, in.Value)
	case api.InExpire:
		o.words("expire").nums(in.Timer)
	default:
		o.words("wait").nums(in.Seconds)
	}
}

// tree writes the line of a node, and then those of its causes, which are farther to the right.
func (o *output) tree(w api.Why, depth int) {
	o.node(w)
	text := strings.Repeat("  ", depth) + o.String()
	o.Reset()
	o.lines = append(o.lines, text)
	for _, cause := range w.From {
		o.tree(cause, depth+1)
	}
}

func (o *output) node(w api.Why) {
	switch w.Kind {
	case api.WhyRule:
		o.words("rule").nums(w.Rule).words("step").nums(w.Step)
		if w.Var == -1 {
			o.words("starts").nums(w.Value)
			return
		}
		o.words("sets").nums(w.Var).words("to").nums(w.Value)
	case api.WhyInput:
		o.words("input", "step").nums(w.Step)
		if w.Var == -1 {
			o.words("expires").nums(w.Value)
			return
		}
		o.words("sets").nums(w.Var).words("to").nums(w.Value)
	default:
		o.words("start").nums(w.Var).words("is").nums(w.Value)
	}
}
