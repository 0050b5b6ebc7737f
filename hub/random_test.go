package hub_test

import (
	"fmt"
	"math/rand"
	"strings"

	"domicile/api"
	guests "domicile/capability"
)

const lampHouse = `room hall; room attic;
kind motion { state: off or on sensor start off; }
kind lamp { power: off or on start off; }
device m: motion in hall; device n: motion in attic;
device l: lamp in hall;
timer t; timer u;
`

const lampRules = `rule on priority 1 when m.state is on do l.power = on, start t 5 s;
rule off priority 1 when timer t do l.power = off;
`

// clashing is a house with rules that clash, and a law that can be broken.
const clashing = lampHouse + lampRules + `rule dark priority 1 when m.state is on do l.power = off;
law long never l.power is on for 2 s;
`

// endless is a house with an endless chain.
const endless = lampHouse + `mode day; mode night;
rule a priority 0 when mode is night do mode = day;
rule b priority 0 when mode is day do mode = night;
`

// maker makes up requests.
type maker struct{ *rand.Rand }

func (m maker) chance(n int) bool { return m.Intn(n) == 0 }

func (m maker) text() string {
	switch m.Intn(12) {
	case 0:
		return clashing
	case 1:
		return endless
	case 2:
		return []string{"room hall; device m: motion in hall;", "room", "", "room hall", "$", lampHouse + "law l never l.power is off for 9 s;", strings.Repeat("room hall; ", 2000)}[m.Intn(7)]
	}
	return lampHouse + lampRules
}

// edit returns an edit of a rule, often one that is permitted.
func (m maker) edit() api.Edit {
	e := api.Edit{Rule: []string{"on", "off", "dark", "new"}[m.Intn(4)]}
	on, off := []string{"on", "off"}[m.Intn(2)], []string{"on", "off"}[m.Intn(2)]
	switch m.Intn(10) {
	case 0:
	case 1:
		e.Text = []string{"rule", "rule x priority 1 when timer t do stop t;", "room hall;", " ", "rule on priority 1 when timer t do stop t; rule on priority 1 when timer t do stop t;"}[m.Intn(5)]
	case 2:
		e.Rule = []string{"", "rule", "a b", "1", "on\n", "abcdefghijklmnopq"}[m.Intn(6)]
	case 3:
		e.Text = fmt.Sprintf("rule %s priority 101 when q.state is on do l.power = on;", e.Rule)
	case 4, 5:
		e.Text = fmt.Sprintf("rule %s priority %d when timer %s if n.state is %s do l.power = %s, start u %d s;", e.Rule, m.Intn(3), []string{"t", "u"}[m.Intn(2)], on, off, m.Intn(3)+1)
	default:
		e.Text = fmt.Sprintf("rule %s priority %d when %s.state is %s do l.power = %s, start t %d s;", e.Rule, m.Intn(3), []string{"m", "n"}[m.Intn(2)], on, off, m.Intn(4)+1)
	}
	return e
}

// request returns a request; the capability is one that the guest has.
func (m maker) request(c api.Cap) api.Request {
	switch m.Intn(24) {
	case 0, 1:
		return api.Request{Kind: api.ReqLoad, Text: m.text()}
	case 2, 3, 4, 5:
		return api.Request{Kind: api.ReqInput, Input: api.Input{Kind: api.InSet, Var: m.Intn(7) - 1, Value: m.Intn(3) - m.Intn(2)}}
	case 6, 7, 8:
		return api.Request{Kind: api.ReqInput, Input: api.Input{Kind: api.InWait, Seconds: 1 + m.Intn(7)}}
	case 9:
		return api.Request{Kind: api.ReqInput, Input: api.Input{Kind: m.Intn(5), Seconds: []int{0, -1, 86400, 86401, 50}[m.Intn(5)]}}
	case 10, 11, 12:
		v := 2 + m.Intn(3) + m.Intn(10)/9
		return api.Request{Kind: api.ReqGuest, Cap: c, Ask: api.Ask{Room: (v - 2 + m.Intn(8)/7) % 2, Var: v, Value: m.Intn(2), Time: m.Intn(9)}}
	case 13:
		tag := c.Tag
		if m.chance(3) {
			tag = []int{-1, 5, 2147483647, 2147483646}[m.Intn(4)]
		}
		if m.chance(2) {
			return api.Request{Kind: api.ReqTake, N: m.Intn(6)}
		}
		return api.Request{Kind: api.ReqRevoke, N: tag}
	case 14:
		return api.Request{Kind: api.ReqQuarantine, N: m.Intn(5) - 1}
	case 15, 16:
		return api.Request{Kind: api.ReqEdit, Edit: m.edit()}
	case 17:
		return api.Request{Kind: api.ReqExplain, N: m.Intn(12) - 1}
	case 18:
		return api.Request{Kind: api.ReqAnalyse}
	case 19:
		return api.Request{Kind: api.ReqSync}
	case 20:
		if !m.chance(3) {
			return api.Request{Kind: api.ReqStatus}
		}
		return api.Request{Kind: api.ReqCrash, N: []int{0, -1, m.Intn(30), m.Intn(600), 1 << 40}[m.Intn(5)]}
	case 21:
		return api.Request{Kind: api.ReqTake, N: []int{-1, 0, 3, 9, 1000000000, 1000000001}[m.Intn(6)]}
	case 22:
		return api.Request{Kind: api.ReqNarrow, Cap: c, Caveat: api.Caveat{Kind: m.Intn(7), Value: m.Intn(3)}}
	}
	return api.Request{Kind: []int{api.ReqMint, api.ReqMint, 0, 15, -1}[m.Intn(5)], N: []int{1, 0, -1, 1000000, 1000001}[m.Intn(5)]}
}

// guest returns a capability, which is mostly genuine under the key.
func (m maker) guest(key int) api.Cap {
	c := guests.Mint(key+m.Intn(12)/11, m.Intn(3))
	for range m.Intn(3) {
		v := api.Caveat{Kind: 1 + m.Intn(5)}
		switch v.Kind {
		case api.CavRoom:
			v.Value = m.Intn(2)
		case api.CavVar:
			v.Value = 2 + m.Intn(2)
		case api.CavBefore:
			v.Value = 20 + m.Intn(100)
		default:
			v.Value = m.Intn(5)
		}
		c, _ = guests.Narrow(c, v)
	}
	return c
}
