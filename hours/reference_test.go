package hours_test

import (
	"math/rand"

	"domicile/api"
)

// covers follows the text of the chapter for one window.
func covers(w api.Window, minute int) bool {
	x := minute % 1440
	if x < 0 {
		x += 1440
	}
	if w.From < w.To {
		return w.From <= x && x < w.To
	}
	return x >= w.From || x < w.To
}

func refQuiet(l []api.Window, minute int) bool {
	for _, w := range l {
		if covers(w, minute) {
			return true
		}
	}
	return false
}

func refNext(l []api.Window, minute int) (int, bool) {
	for n := 1; n <= 2000; n++ {
		if refQuiet(l, minute+n) != refQuiet(l, minute+n-1) {
			return n, true
		}
	}
	return 0, false
}

func refChanges(l []api.Window, from, till int) []api.Change {
	var list []api.Change
	for minute := from + 1; minute <= till && till <= from+14400; minute++ {
		if quiet := refQuiet(l, minute); quiet != refQuiet(l, minute-1) {
			list = append(list, api.Change{Minute: minute, Quiet: quiet})
		}
	}
	return list
}

// maker makes up windows and minutes.
type maker struct{ *rand.Rand }

func (m maker) chance(n int) bool { return m.Intn(n) == 0 }

// windows returns well-formed windows that often touch or overlap.
func (m maker) windows() []api.Window {
	var l []api.Window
	for range min(8, m.Intn(2)+m.Intn(1+m.Intn(9))) {
		w := api.Window{From: m.edge(), To: m.edge()}
		if m.chance(2) {
			w.To = (w.From + m.Intn(200)) % 1440
		}
		if len(l) > 0 && m.chance(5) {
			w.From = l[m.Intn(len(l))].To
		}
		if len(l) > 0 && m.chance(6) {
			w.To = l[m.Intn(len(l))].From
		}
		if w.From != w.To {
			l = append(l, w)
		}
	}
	return l
}

func (m maker) edge() int {
	switch m.Intn(4) {
	case 0:
		return []int{0, 1, 1438, 1439}[m.Intn(4)]
	case 1:
		return 60 * m.Intn(24)
	}
	return m.Intn(1440)
}

func (m maker) minute() int {
	switch m.Intn(6) {
	case 0:
		return []int{-1000000000, -999999999, 999999999, 1000000000}[m.Intn(4)]
	case 1:
		return m.Intn(2000000001) - 1000000000
	case 2:
		return m.Intn(3) - 1
	}
	return m.Intn(6000) - 3000
}
