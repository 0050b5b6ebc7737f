package hub

import (
	"domicile/api"
	"domicile/flash"
)

// The first byte of a record says which part of an entry it has.
const (
	partFirst = 2
	partMore  = 1 // is added if further parts follow
	partSize  = 199
)

func (h *Hub) doSync(api.Request) (api.Answer, api.Errno) {
	f := h.memory
	for _, e := range h.entries[h.synced:] {
		memories, err := written(f, e)
		if err != api.OK {
			return api.Answer{}, err
		}
		f = memories[len(memories)-1]
	}
	h.memory, h.synced = f, len(h.entries)
	return api.Answer{}, api.OK
}

func (h *Hub) doCrash(r api.Request) (api.Answer, api.Errno) {
	if r.N < 0 {
		return api.Answer{}, api.ErrArg
	}
	h.memory = h.interrupted(r.N)
	h.entries = entriesIn(flash.Records(h.memory))
	h.synced = len(h.entries)
	h.time = timeAfter(h.entries)
	h.state = replay(inOrder(h.entries), h.time)
	return api.Answer{}, api.OK
}

// interrupted returns the memory if power is lost after some steps of syncing.
func (h *Hub) interrupted(steps int) api.Flash {
	f := h.memory
writing:
	for _, e := range h.entries[h.synced:] {
		memories, err := written(f, e)
		if err != api.OK {
			break
		}
		for _, next := range memories {
			l := flash.Steps(f, next)
			if steps < len(l) {
				if steps > 0 {
					f = l[steps-1]
				}
				break writing
			}
			steps -= len(l)
			f = next
		}
	}
	return f
}

// written returns the memories after each record of an entry was appended.
func written(f api.Flash, e api.Entry) ([]api.Flash, api.Errno) {
	var memories []api.Flash
	for _, record := range recordsOf(e) {
		next, err := flash.Append(f, record)
		if err != api.OK {
			return nil, err
		}
		memories = append(memories, next)
		f = next
	}
	return memories, api.OK
}

func recordsOf(e api.Entry) [][]byte {
	var records [][]byte
	b := bytesOf(e)
	for first := byte(partFirst); len(b) > 0; first = 0 {
		n := min(len(b), partSize)
		if n < len(b) {
			first += partMore
		}
		records = append(records, append([]byte{first}, b[:n]...))
		b = b[n:]
	}
	return records
}

// entriesIn returns the entries that are complete in records.
func entriesIn(records [][]byte) []api.Entry {
	var entries []api.Entry
	var b []byte
	begun := false
	for _, r := range records {
		if len(r) == 0 || r[0] > partFirst+partMore {
			continue
		}
		if r[0] >= partFirst {
			b, begun = nil, true
		}
		if !begun {
			continue
		}
		b = append(b, r[1:]...)
		if r[0]&partMore != 0 {
			continue
		}
		begun = false
		if e, ok := entryOf(b); ok {
			entries = append(entries, e)
		}
	}
	return entries
}
