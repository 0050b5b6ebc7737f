package merge_test

import (
	"fmt"
	"math/rand"
	"slices"
	"sort"

	"domicile/api"
)

func less(x, y api.Entry) bool {
	if x.Time != y.Time {
		return x.Time < y.Time
	}
	if x.Hub != y.Hub {
		return x.Hub < y.Hub
	}
	return x.Seq < y.Seq
}

// show writes an entry so that equal ones have equal texts.
func show(e api.Entry) string { return fmt.Sprintf("%+v", e) }

func refValid(l []api.Entry) bool {
	if len(l) > 400 {
		return false
	}
	for i, e := range l {
		if e.Hub < 0 || e.Hub > 2 || e.Seq < 0 || e.Seq > 1000000000 || e.Time < 0 || e.Time > 1000000000 || e.Kind < 1 || e.Kind > 7 || len(e.Nums) > 32 || len(e.Text) > 20000 {
			return false
		}
		if i > 0 && !less(l[i-1], e) {
			return false
		}
		for _, other := range l[:i] {
			if other.Hub == e.Hub && other.Seq == e.Seq {
				return false
			}
		}
	}
	return true
}

func refMerge(a, b []api.Entry) ([]api.Entry, api.Errno) {
	if !refValid(a) || !refValid(b) {
		return nil, api.ErrArg
	}
	all := slices.Clone(a)
	for _, y := range b {
		there := false
		for _, x := range a {
			if x.Hub == y.Hub && x.Seq == y.Seq {
				if there = true; show(x) != show(y) {
					return nil, api.ErrConflict
				}
			}
		}
		if !there {
			all = append(all, y)
		}
	}
	if len(all) > 400 {
		return nil, api.ErrLimit
	}
	sort.Slice(all, func(i, j int) bool { return less(all[i], all[j]) })
	return all, api.OK
}

func refMissing(a, b []api.Entry) []api.Entry {
	var l []api.Entry
	if !refValid(a) || !refValid(b) {
		return nil
	}
	for _, x := range a {
		if !slices.ContainsFunc(b, func(y api.Entry) bool { return show(x) == show(y) }) {
			l = append(l, x)
		}
	}
	return l
}

func refRulesValid(l []api.Edit) bool {
	for i, e := range l {
		if len(e.Rule) < 1 || len(e.Rule) > 16 || len(e.Text) < 1 || len(e.Text) > 20000 || i > 0 && l[i-1].Rule >= e.Rule {
			return false
		}
	}
	return len(l) <= 400
}

func text(l []api.Edit, name string) string {
	for _, e := range l {
		if e.Rule == name {
			return e.Text
		}
	}
	return ""
}

// refRules goes through all names of the three lists.
func refRules(base, a, b []api.Edit) ([]api.Edit, []string, api.Errno) {
	if !refRulesValid(base) || !refRulesValid(a) || !refRulesValid(b) {
		return nil, nil, api.ErrArg
	}
	known := map[string]bool{}
	var names []string
	for _, l := range [][]api.Edit{base, a, b} {
		for _, e := range l {
			if !known[e.Rule] {
				known[e.Rule] = true
				names = append(names, e.Rule)
			}
		}
	}
	sort.Strings(names)
	var list []api.Edit
	var conflicts []string
	for _, name := range names {
		o, x, y := text(base, name), text(a, name), text(b, name)
		result := o
		if x == y {
			result = x
		} else if x == o {
			result = y
		} else if y == o {
			result = x
		} else {
			conflicts = append(conflicts, name)
		}
		if len(result) > 0 {
			list = append(list, api.Edit{Rule: name, Text: result})
		}
	}
	if len(list) > 400 {
		return nil, nil, api.ErrLimit
	}
	return list, conflicts, api.OK
}

// maker makes up journals and rules.
type maker struct{ *rand.Rand }

func (m maker) chance(n int) bool { return m.Intn(n) == 0 }

// history returns a journal, entries of which several hubs know.
func (m maker) history(n int) []api.Entry {
	var l []api.Entry
	var seqs [3]int
	time := 0
	for range n {
		hub := m.Intn(3)
		if time += m.Intn(3); len(l) > 0 && l[len(l)-1].Time == time && l[len(l)-1].Hub > hub {
			time++
		}
		e := api.Entry{Hub: hub, Seq: seqs[hub], Time: time, Kind: 1 + m.Intn(7)}
		seqs[hub] += 1 + m.Intn(2)
		for range m.Intn(3) {
			e.Nums = append(e.Nums, m.Intn(5))
		}
		if m.chance(4) {
			e.Text = []string{"a", "b"}[m.Intn(2)]
		}
		l = append(l, e)
	}
	return l
}

// part returns some entries of a journal.
func (m maker) part(l []api.Entry) []api.Entry {
	var part []api.Entry
	for _, e := range l {
		if !m.chance(3) {
			part = append(part, e)
		}
	}
	return part
}

// change changes an entry a little.
func (m maker) change(l []api.Entry) []api.Entry {
	l = slices.Clone(l)
	if len(l) == 0 {
		return l
	}
	e := &l[m.Intn(len(l))]
	switch m.Intn(6) {
	case 0:
		e.Time += m.Intn(3) - 1
	case 1:
		e.Hub = m.Intn(4) - m.Intn(2)
	case 2:
		e.Seq += m.Intn(3) - 1
	case 3:
		e.Kind = 1 + m.Intn(7)
	case 4:
		e.Nums = append(slices.Clone(e.Nums), 1)
	case 5:
		e.Text += "c"
	}
	return l
}

// rules returns a list of rules.
func (m maker) rules() []api.Edit {
	var l []api.Edit
	for _, name := range []string{"a", "ab", "b", "c", "d\xff", "e"} {
		if !m.chance(3) {
			l = append(l, api.Edit{Rule: name, Text: []string{"x", "y", "z"}[m.Intn(3)]})
		}
	}
	if len(l) > 1 && m.chance(30) {
		l[0], l[1] = l[1], l[0]
	}
	return l
}

// edited returns a list of rules after some edits.
func (m maker) edited(l []api.Edit) []api.Edit {
	if m.chance(3) {
		return m.rules()
	}
	var next []api.Edit
	for _, e := range l {
		switch m.Intn(6) {
		case 0:
			e.Text = []string{"x", "y", "z"}[m.Intn(3)]
		case 1:
			continue
		}
		next = append(next, e)
	}
	return next
}
