package join_test

import (
	"math/rand"

	"domicile/api"
	"domicile/crypto"
)

const p = 2147483647

// refProof is the proof of a hub (mark 1) or a device (mark 2).
func refProof(mark, code, device, hub, key int) int {
	return crypto.Sum([]int{code, 4, mark, device, hub, key})
}

func refValid(j api.Joiner) bool {
	if j.Mine != crypto.Public(j.Secret) {
		return false
	}
	if j.Other != 0 && (j.Other < 2 || j.Other > p-2) {
		return false
	}
	if !j.Done {
		return j.Key == 0
	}
	return j.Other != 0 && j.Key == crypto.Shared(j.Secret, j.Other)
}

// refReceive follows the chapter case by case.
func refReceive(j api.Joiner, h api.Hello) (api.Joiner, api.Hello, api.Errno) {
	fail := func(err api.Errno) (api.Joiner, api.Hello, api.Errno) { return api.Joiner{}, api.Hello{}, err }
	acceptable := h.Public >= 2 && h.Public <= p-2
	switch {
	case !refValid(j):
		return fail(api.ErrArg)
	case j.Done:
		return fail(api.ErrState)
	case j.Hub && h.Step == 1:
		if !acceptable {
			return fail(api.ErrArg)
		}
		j.Other = h.Public
		return j, api.Hello{Step: 2, Public: j.Mine, Proof: refProof(1, j.Code, j.Other, j.Mine, crypto.Shared(j.Secret, j.Other))}, api.OK
	case !j.Hub && h.Step == 2:
		if !acceptable {
			return fail(api.ErrArg)
		}
		key := crypto.Shared(j.Secret, h.Public)
		if h.Proof != refProof(1, j.Code, j.Mine, h.Public, key) {
			return fail(api.ErrProof)
		}
		j.Other, j.Key, j.Done = h.Public, key, true
		return j, api.Hello{Step: 3, Proof: refProof(2, j.Code, j.Mine, j.Other, key)}, api.OK
	case j.Hub && h.Step == 3 && j.Other != 0:
		key := crypto.Shared(j.Secret, j.Other)
		if h.Proof != refProof(2, j.Code, j.Other, j.Mine, key) {
			return fail(api.ErrProof)
		}
		j.Key, j.Done = key, true
		return j, api.Hello{}, api.OK
	}
	return fail(api.ErrState)
}

// maker makes up codes, secrets and messages.
type maker struct{ *rand.Rand }

func (m maker) chance(n int) bool { return m.Intn(n) == 0 }

func (m maker) number() int {
	switch m.Intn(6) {
	case 0:
		return []int{0, -1, 1, 2, p - 2, p - 1, p, p + 1, 1<<63 - 1, -1 << 63}[m.Intn(10)]
	case 1:
		return int(m.Uint64())
	}
	return m.Intn(100000)
}

// side returns a side that is often well-formed, and mostly expects a message.
func (m maker) side() api.Joiner {
	j := api.Joiner{Code: m.number(), Secret: m.number(), Hub: m.chance(2)}
	j.Mine = crypto.Public(j.Secret)
	if m.chance(2) {
		j.Other = crypto.Public(m.number())
		if m.chance(3) {
			j.Done, j.Key = true, crypto.Shared(j.Secret, j.Other)
		}
	}
	if m.chance(8) {
		*[]*int{&j.Mine, &j.Other, &j.Key}[m.Intn(3)] = m.number()
	}
	return j
}

// hello returns a message that the side often accepts.
func (m maker) hello(j api.Joiner) api.Hello {
	h := api.Hello{Step: 1 + m.Intn(3), Public: m.number(), Proof: m.number()}
	if m.chance(10) {
		h.Step = m.number()
	}
	if m.chance(2) {
		h.Public = crypto.Public(m.number())
	}
	if m.chance(2) {
		h.Proof = refProof(1, j.Code, j.Mine, h.Public, crypto.Shared(j.Secret, h.Public))
		if j.Hub {
			h.Proof = refProof(2, j.Code, j.Other, j.Mine, crypto.Shared(j.Secret, j.Other))
		}
	}
	return h
}
