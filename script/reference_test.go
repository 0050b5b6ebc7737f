package script_test

import (
	"fmt"
	"math/rand"
	"regexp"
	"strconv"
	"strings"

	"domicile/api"
	"domicile/hub"
)

// refSession follows the tables of the chapter with regular expressions.
type refSession struct {
	hubs    map[int]*hub.Hub
	key     int
	size    int
	present int
	cap     api.Cap
	text    string
}

func newRef(number, key, size int) *refSession {
	if number < 0 || number > 2 {
		number = 0
	}
	return &refSession{hubs: map[int]*hub.Hub{}, key: key, size: size, present: number}
}

func (s *refSession) hub(n int) *hub.Hub {
	if s.hubs[n] == nil {
		s.hubs[n] = hub.New(n, s.key, s.size)
	}
	return s.hubs[n]
}

// forms has the words of each line: N is a number, W any word, K a kind of caveats.
var forms = map[string]string{
	"hub": "N", "load": "", "edit": "W", "set": "NN", "wait": "N", "mint": "N", "narrow": "KN", "guest": "NNN", "revoke": "N", "quarantine": "N", "explain": "N",
	"analyse": "", "sync": "", "crash": "N", "take": "N", "status": "", "journal": "", "merge": "N",
}

var isNumber = regexp.MustCompile(`^-?[0-9]{1,10}$`)

var names = strings.Fields("OK ErrArg ErrLimit ErrChar ErrNumber ErrEnd ErrSyntax ErrUnit ErrName ErrTwice ErrType ErrRange ErrCode ErrFuel ErrProtocol ErrTag ErrReplay ErrProof ErrRight ErrUses ErrTime ErrRevoked ErrLease ErrFence ErrFormat ErrConflict ErrLoop ErrNone ErrState ErrIdle ErrFull ErrStale")

func (s *refSession) do(line string) []string {
	l, err := s.line(line)
	if err != api.OK {
		return []string{"error " + names[err]}
	}
	return l
}

func (s *refSession) line(line string) ([]string, api.Errno) {
	if len(line) > 1000 {
		return nil, api.ErrLimit
	}
	if strings.ContainsRune(line, '\n') {
		return nil, api.ErrSyntax
	}
	var words []string
	for _, w := range strings.Split(line, " ") {
		if w != "" {
			words = append(words, w)
		}
	}
	if len(words) == 0 || strings.HasPrefix(words[0], "#") {
		return nil, api.OK
	}
	if m := regexp.MustCompile(`(?s)^ *text(?: (.*))?$`).FindStringSubmatch(line); m != nil {
		if len(s.text)+len(m[1]) >= 20000 {
			return nil, api.ErrLimit
		}
		s.text += m[1] + "\n"
		return nil, api.OK
	}
	form, ok := forms[words[0]]
	if !ok || len(words) != len(form)+1 {
		return nil, api.ErrSyntax
	}
	kinds := map[string]int{"room": 1, "var": 2, "after": 3, "before": 4, "uses": 5}
	if strings.HasPrefix(form, "K") && kinds[words[1]] == 0 {
		return nil, api.ErrSyntax
	}
	var n [3]int
	k := 0
	for i, f := range form {
		if f != 'N' {
			continue
		}
		if !isNumber.MatchString(words[i+1]) {
			return nil, api.ErrNumber
		}
		n[k], _ = strconv.Atoi(words[i+1])
		k++
	}
	return s.run(words, n, kinds)
}

func (s *refSession) run(words []string, n [3]int, kinds map[string]int) ([]string, api.Errno) {
	r := api.Request{N: n[0]}
	switch words[0] {
	case "hub", "merge":
		if n[0] < 0 || n[0] > 2 {
			return nil, api.ErrArg
		}
		if words[0] == "merge" {
			return []string{"ok"}, s.hub(s.present).Merge(s.hub(n[0]).Journal())
		}
		s.present = n[0]
		return nil, api.OK
	case "journal":
		var l []string
		for _, e := range s.hub(s.present).Journal() {
			line := fmt.Sprintln("entry", e.Hub, e.Seq, e.Time, e.Kind) + fmt.Sprintln(e.Nums) + fmt.Sprint("bytes ", len(e.Text))
			l = append(l, strings.Join(strings.Fields(strings.NewReplacer("[", " ", "]", " ").Replace(line)), " "))
		}
		return l, api.OK
	case "load":
		r.Kind, r.Text, s.text = api.ReqLoad, s.text, ""
	case "edit":
		r.Kind, r.Edit, s.text = api.ReqEdit, api.Edit{Rule: words[1], Text: s.text}, ""
	case "set":
		r.Kind, r.Input = api.ReqInput, api.Input{Kind: api.InSet, Var: n[0], Value: n[1]}
	case "wait":
		r.Kind, r.Input = api.ReqInput, api.Input{Kind: api.InWait, Seconds: n[0]}
	case "narrow":
		r.Kind, r.Cap, r.Caveat = api.ReqNarrow, s.cap, api.Caveat{Kind: kinds[words[1]], Value: n[0]}
	case "guest":
		r.Kind, r.Cap, r.Ask = api.ReqGuest, s.cap, api.Ask{Room: n[0], Var: n[1], Value: n[2]}
	default:
		r.Kind = map[string]int{"mint": api.ReqMint, "revoke": api.ReqRevoke, "quarantine": api.ReqQuarantine, "explain": api.ReqExplain, "analyse": api.ReqAnalyse, "sync": api.ReqSync, "crash": api.ReqCrash, "take": api.ReqTake, "status": api.ReqStatus}[words[0]]
	}
	a := s.hub(s.present).Do(r)
	if a.Err == api.OK && (r.Kind == api.ReqMint || r.Kind == api.ReqNarrow) {
		s.cap = a.Cap
	}
	return show(r.Kind, a), a.Err
}

// show prints an answer.
func show(kind int, a api.Answer) []string {
	var l []string
	switch kind {
	case api.ReqMint, api.ReqNarrow:
		return []string{fmt.Sprintf("cap %d %d %d", a.Cap.Id, a.Cap.Tag, len(a.Cap.Caveats))}
	case api.ReqStatus:
		line := fmt.Sprint(map[bool]string{true: "running", false: "idle"}[a.Status.Running], map[bool]string{true: " safe", false: " unsafe"}[a.Status.Safe], " steps ", a.Status.Steps, " fence ", a.Status.Fence, " values ", a.Status.Values, " quarantined ", a.Status.Quarantined)
		return []string{strings.Join(strings.Fields(strings.NewReplacer("[", "", "]", "").Replace(line)), " ")}
	case api.ReqExplain:
		for _, w := range a.Why {
			l = append(l, showTree(w, "")...)
		}
		return l
	}
	for _, c := range a.Commands {
		l = append(l, fmt.Sprintf("rule %d sets %d to %d", c.Rule, c.Var, c.Value))
	}
	for _, f := range a.Findings {
		line := map[int]string{
			api.FindClash: fmt.Sprintf("clash %d %d %d", f.First, f.Second, f.Var), api.FindEndless: fmt.Sprintf("endless %d", f.First),
			api.FindLaw: fmt.Sprintf("law %d", f.Law), api.FindDead: fmt.Sprintf("dead %d", f.First),
		}[f.Kind]
		var inputs []string
		for _, in := range f.Run {
			inputs = append(inputs, map[int]string{
				api.InSet: fmt.Sprintf("set %d %d", in.Var, in.Value), api.InExpire: fmt.Sprintf("expire %d", in.Timer), api.InWait: fmt.Sprintf("wait %d", in.Seconds),
			}[in.Kind])
		}
		if len(inputs) > 0 {
			line += " after " + strings.Join(inputs, ", ")
		}
		l = append(l, line)
	}
	if len(l) == 0 {
		l = []string{"ok"}
	}
	return l
}

func showTree(w api.Why, indent string) []string {
	line := fmt.Sprintf("start %d is %d", w.Var, w.Value)
	switch {
	case w.Kind == api.WhyRule && w.Var == -1:
		line = fmt.Sprintf("rule %d step %d starts %d", w.Rule, w.Step, w.Value)
	case w.Kind == api.WhyRule:
		line = fmt.Sprintf("rule %d step %d sets %d to %d", w.Rule, w.Step, w.Var, w.Value)
	case w.Kind == api.WhyInput && w.Var == -1:
		line = fmt.Sprintf("input step %d expires %d", w.Step, w.Value)
	case w.Kind == api.WhyInput:
		line = fmt.Sprintf("input step %d sets %d to %d", w.Step, w.Var, w.Value)
	}
	l := []string{indent + line}
	for _, c := range w.From {
		l = append(l, showTree(c, indent+"  ")...)
	}
	return l
}

const house = `text room hall; room attic;
text kind motion { state: off or on sensor start off; }
text kind lamp { power: off or on start off; }
text device m: motion in hall; device n: motion in attic; device l: lamp in hall;
text timer t;
`

const lampRules = `text rule on priority 1 when m.state is on if l.power is off do l.power = on, start t 5 s;
text rule off priority 1 when timer t do l.power = off;
`

// faulty rules clash, and one never fires; a law can be broken; a chain has no end.
const faulty = `text rule dark priority 1 when m.state is on do l.power = off;
text rule dead priority 1 when m.state is on if m.state is off do l.power = off;
text law long never l.power is on for 2 s;
text mode day; mode night;
text rule a priority 0 when mode is night do mode = day;
text rule b priority 0 when mode is day do mode = night;
`

// maker makes up lines.
type maker struct{ *rand.Rand }

func (m maker) chance(n int) bool { return m.Intn(n) == 0 }

// line returns a line, or several ones with a text.
func (m maker) line() string {
	on := []string{"on", "off"}[m.Intn(2)]
	switch m.Intn(34) {
	case 0, 1:
		return house + lampRules + "load"
	case 2:
		return house + lampRules + faulty + "load"
	case 3:
		return fmt.Sprintf("text rule %s priority %d when n.state is %s do l.power = %s;\nedit %s", on, m.Intn(3), on, on, on)
	case 4:
		return fmt.Sprintf("edit %s", []string{"on", "off", "none", "rule", "a;"}[m.Intn(5)])
	case 5, 6, 7:
		return fmt.Sprintf("set %d %d", m.Intn(5), m.Intn(2))
	case 8, 9, 10:
		return fmt.Sprintf("wait %d", m.Intn(7))
	case 11:
		return fmt.Sprintf("mint %d", m.Intn(3))
	case 12:
		return fmt.Sprintf("narrow %s %d", []string{"room", "var", "after", "before", "uses", "kind"}[m.Intn(6)], m.Intn(4))
	case 13, 14, 15:
		return fmt.Sprintf("guest %d %d %d", m.Intn(2), 2+m.Intn(3), m.Intn(2))
	case 16:
		return fmt.Sprintf("revoke %d", m.Intn(2147483647))
	case 17:
		return fmt.Sprintf("quarantine %d", m.Intn(4)-m.Intn(2))
	case 18:
		return fmt.Sprintf("explain %d", m.Intn(10))
	case 19:
		return "edit off\nset 2 0\nset 2 1\nexplain 0\nexplain 1"
	case 20:
		return "analyse"
	case 21, 22:
		return "sync"
	case 23:
		return fmt.Sprintf("crash %d", []int{0, m.Intn(500), m.Intn(10000), -1}[m.Intn(4)])
	case 24:
		return fmt.Sprintf("take %d", m.Intn(20))
	case 25:
		return "status"
	case 26:
		return "journal"
	case 27, 28:
		return fmt.Sprintf("merge %d", m.Intn(3))
	case 29:
		return []string{"", "   ", "# a remark", "  #", "text", "text  two  blanks ", "texts", "text\t", " text", "  text x"}[m.Intn(10)]
	case 30:
		return m.broken()
	}
	return fmt.Sprintf("hub %d", m.Intn(3)*m.Intn(2))
}

// broken returns a line with an error in its words.
func (m maker) broken() string {
	return []string{
		"wait x", "wait", "wait 1 2", "hub 3", "hub -1", "set 1", "set 1 2 3", "set 1 -", "wait 12345678901", "wait -1234567890", "wait +5", "wait 1.5", "wait --1", "guest 1 2", "guest 1 2 x", "narrow uses", "narrow uses x", "narrow x y", "narrow 5 5", "edit", "edit a b",
		"load x", "sync 1", "status 0", "journal 0", "analyse it", "merge", "merge 9", "merge x", "unknown", "Hub 1", "mint 1000001", "mint -1", "explain", "take 0x5", "crash １", "wait\t5", strings.Repeat(" ", 1001), "#" + strings.Repeat("x", 1000), "text" + strings.Repeat("x", 997), "quarantine 1\n",
	}[m.Intn(41)]
}

// lines returns n times one or more lines.
func (m maker) lines(n int) []string {
	var l []string
	for range n {
		l = append(l, strings.Split(m.line(), "\n")...)
	}
	return l
}
