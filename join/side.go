package join

import (
	"domicile/api"
	"domicile/crypto"
)

// side is one side of a join.
type side struct{ api.Joiner }

func (s *side) isValid() bool {
	if s.Mine != crypto.Public(s.Secret) || s.Other != 0 && !isAcceptable(s.Other) {
		return false
	}
	if s.Done {
		return s.Other != 0 && s.Key == s.key()
	}
	return s.Key == 0
}

func (s *side) key() int { return crypto.Shared(s.Secret, s.Other) }

// proof returns a proof with a mark, once the other side is known.
func (s *side) proof(mark int) int {
	device, hub := s.Mine, s.Other
	if s.Hub {
		device, hub = hub, device
	}
	return crypto.Tag(s.Code, []int{mark, device, hub, s.key()})
}

// meet is what a hub does on the first message of a device.
func (s *side) meet(h api.Hello) (api.Hello, api.Errno) {
	if !isAcceptable(h.Public) {
		return api.Hello{}, api.ErrArg
	}
	s.Other = h.Public
	return api.Hello{Step: stepHub, Public: s.Mine, Proof: s.proof(hubMark)}, api.OK
}

// agree is what a device does on the message of a hub.
func (s *side) agree(h api.Hello) (api.Hello, api.Errno) {
	if !isAcceptable(h.Public) {
		return api.Hello{}, api.ErrArg
	}
	s.Other = h.Public
	if err := s.end(func() bool { return h.Proof == s.proof(hubMark) }); err != api.OK {
		return api.Hello{}, err
	}
	return api.Hello{Step: stepEnd, Proof: s.proof(deviceMark)}, api.OK
}

// finish is what a hub does on the last message.
func (s *side) finish(h api.Hello) api.Errno {
	return s.end(func() bool { return h.Proof == s.proof(deviceMark) })
}

// end ends the join of a side if a check succeeds.
func (s *side) end(isProved func() bool) api.Errno {
	if !isProved() {
		return api.ErrProof
	}
	s.Key, s.Done = s.key(), true
	return api.OK
}
