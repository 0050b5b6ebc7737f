package flash_test

import (
	"math/rand"
	"slices"

	"domicile/api"
)

func refMemory(f api.Flash) bool {
	return len(f.Pages[0]) == len(f.Pages[1]) && len(f.Pages[0]) >= 16 && len(f.Pages[0]) <= 4096
}

func refValidPage(p []byte) bool {
	n := int(p[0])
	return n >= 1 && n <= 250 && int(p[1]) == 255-n && int(p[2]) == 255-n
}

// refCurrent returns the index of the current page, or -1.
func refCurrent(f api.Flash) int {
	a, b := refValidPage(f.Pages[0]), refValidPage(f.Pages[1])
	switch {
	case a && b:
		if d := (int(f.Pages[1][0]) - int(f.Pages[0][0]) + 250) % 250; d >= 1 && d <= 125 {
			return 1
		}
		return 0
	case a:
		return 0
	case b:
		return 1
	}
	return -1
}

func refFrame(record []byte) []byte {
	sum := 7
	for i, c := range record {
		sum += int(c) * (i + 1)
	}
	b := []byte{byte(len(record)), byte(255 - len(record)), byte(sum % 251)}
	return append(b, record...)
}

// refRecords returns the records of a page and where its rest begins.
func refRecords(page []byte) ([][]byte, int) {
	var l [][]byte
	rest := page[3:]
	for len(rest) >= 3 && rest[0] <= 200 && len(rest) >= 3+int(rest[0]) {
		frame := rest[:3+int(rest[0])]
		if !slices.Equal(frame, refFrame(frame[3:])) {
			break
		}
		l = append(l, frame[3:])
		rest = rest[len(frame):]
	}
	return l, len(page) - len(rest)
}

// refPage returns the page with a number and records, or nothing if they do not fit.
func refPage(size, n int, l [][]byte) []byte {
	b := []byte{byte(n), byte(255 - n), byte(255 - n)}
	for _, record := range l {
		b = append(b, refFrame(record)...)
	}
	if len(b) > size {
		return nil
	}
	for len(b) < size {
		b = append(b, 255)
	}
	return b
}

func clone(f api.Flash) api.Flash {
	return api.Flash{Pages: [2][]byte{slices.Clone(f.Pages[0]), slices.Clone(f.Pages[1])}}
}

func refCompact(f api.Flash, l [][]byte) (api.Flash, api.Errno) {
	if !refMemory(f) {
		return api.Flash{}, api.ErrArg
	}
	for _, record := range l {
		if len(record) > 200 {
			return api.Flash{}, api.ErrArg
		}
	}
	to, n := 0, 1
	if c := refCurrent(f); c >= 0 {
		to, n = 1-c, int(f.Pages[c][0])+1
		if n == 251 {
			n = 1
		}
	}
	page := refPage(len(f.Pages[0]), n, l)
	if page == nil {
		return api.Flash{}, api.ErrFull
	}
	next := clone(f)
	next.Pages[to] = page
	return next, api.OK
}

func refAppend(f api.Flash, record []byte) (api.Flash, api.Errno) {
	if !refMemory(f) || len(record) > 200 {
		return api.Flash{}, api.ErrArg
	}
	c := refCurrent(f)
	if c < 0 {
		return refCompact(f, [][]byte{record})
	}
	l, rest := refRecords(f.Pages[c])
	clean := true
	for _, b := range f.Pages[c][rest:] {
		clean = clean && b == 255
	}
	frame := refFrame(record)
	if !clean || rest+len(frame) > len(f.Pages[c]) {
		return refCompact(f, append(slices.Clone(l), record))
	}
	next := clone(f)
	for i, b := range frame {
		next.Pages[c][rest+i] = b
	}
	return next, api.OK
}

func refSteps(a, b api.Flash) []api.Flash {
	var l []api.Flash
	if !refMemory(a) || !refMemory(b) || len(a.Pages[0]) != len(b.Pages[0]) {
		return nil
	}
	now := clone(a)
	for p := range 2 {
		erase := false
		for i, c := range b.Pages[p] {
			erase = erase || c|a.Pages[p][i] != a.Pages[p][i]
		}
		for i := 0; erase && i < len(b.Pages[p]); i++ {
			if now.Pages[p][i] != 255 {
				now.Pages[p][i] = 255
				l = append(l, clone(now))
			}
		}
		for i := len(b.Pages[p]) - 1; i >= 0; i-- {
			if now.Pages[p][i] != b.Pages[p][i] {
				now.Pages[p][i] = b.Pages[p][i]
				l = append(l, clone(now))
			}
		}
	}
	return l
}

// maker makes up records and memories.
type maker struct{ *rand.Rand }

func (m maker) chance(n int) bool { return m.Intn(n) == 0 }

func (m maker) record() []byte {
	n := m.Intn(7)
	if m.chance(20) {
		n = 195 + m.Intn(8)
	}
	b := make([]byte, n)
	for i := range b {
		b[i] = byte(m.Intn(256))
		if m.chance(4) {
			b[i] = []byte{0, 255}[m.Intn(2)]
		}
	}
	return b
}

func (m maker) records() [][]byte {
	var l [][]byte
	for range m.Intn(5) {
		l = append(l, m.record())
	}
	return l
}

// page returns a page, often a valid one with records and something behind them.
func (m maker) page(size int) []byte {
	n := 1 + m.Intn(250)
	if m.chance(3) {
		n = []int{1, 2, 125, 126, 249, 250}[m.Intn(6)]
	}
	var l [][]byte
	for range m.Intn(4) {
		l = append(l, m.record())
	}
	page := refPage(size, n, l)
	for page == nil {
		l = l[1:]
		page = refPage(size, n, l)
	}
	switch m.Intn(6) {
	case 0:
		page[m.Intn(size)] = byte(m.Intn(256))
	case 1:
		page[m.Intn(3)] = []byte{0, 251, 250, 255, 5}[m.Intn(5)]
	case 2:
		if _, rest := refRecords(page); rest < size {
			page[rest+m.Intn(size-rest)] = byte(m.Intn(256))
		}
	case 3:
		if m.chance(2) {
			page[0] = 255
		}
	}
	return page
}

func (m maker) memory() api.Flash {
	size := 16 + m.Intn(40)
	if m.chance(6) {
		size = 200 + m.Intn(300)
	}
	f := api.Flash{Pages: [2][]byte{m.page(size), m.page(size)}}
	if m.chance(30) {
		i := m.Intn(2)
		f.Pages[i] = f.Pages[i][:m.Intn(size)]
	}
	return f
}
