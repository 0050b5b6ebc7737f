package script

import "domicile/api"

func (s *Session) nothing(arguments, *output) api.Errno { return api.OK }

func (s *Session) choose(a arguments, _ *output) api.Errno {
	if !isHub(a.nums[0]) {
		return api.ErrArg
	}
	s.present = a.nums[0]
	return api.OK
}

func (s *Session) add(a arguments, _ *output) api.Errno {
	if len(s.text)+len(a.rest)+1 > api.MaxSource {
		return api.ErrLimit
	}
	s.text += a.rest + "\n"
	return api.OK
}

func (s *Session) load(_ arguments, out *output) api.Errno {
	return s.ask(api.Request{Kind: api.ReqLoad, Text: s.takeText()}, out)
}

func (s *Session) edit(a arguments, out *output) api.Errno {
	return s.ask(api.Request{Kind: api.ReqEdit, Edit: api.Edit{Rule: a.name, Text: s.takeText()}}, out)
}

// takeText returns the text, which is empty afterwards.
func (s *Session) takeText() string {
	text := s.text
	s.text = ""
	return text
}

func (s *Session) set(a arguments, out *output) api.Errno {
	return s.ask(api.Request{Kind: api.ReqInput, Input: api.Input{Kind: api.InSet, Var: a.nums[0], Value: a.nums[1]}}, out)
}

func (s *Session) wait(a arguments, out *output) api.Errno {
	return s.ask(api.Request{Kind: api.ReqInput, Input: api.Input{Kind: api.InWait, Seconds: a.nums[0]}}, out)
}

func (s *Session) mint(a arguments, out *output) api.Errno {
	return s.askCap(api.Request{Kind: api.ReqMint, N: a.nums[0]}, out)
}

func (s *Session) narrow(a arguments, out *output) api.Errno {
	return s.askCap(api.Request{Kind: api.ReqNarrow, Cap: s.cap, Caveat: api.Caveat{Kind: a.kind, Value: a.nums[0]}}, out)
}

func (s *Session) guest(a arguments, out *output) api.Errno {
	return s.ask(api.Request{Kind: api.ReqGuest, Cap: s.cap, Ask: api.Ask{Room: a.nums[0], Var: a.nums[1], Value: a.nums[2]}}, out)
}

func (s *Session) revoke(a arguments, out *output) api.Errno {
	return s.ask(api.Request{Kind: api.ReqRevoke, N: a.nums[0]}, out)
}

func (s *Session) quarantine(a arguments, out *output) api.Errno {
	return s.ask(api.Request{Kind: api.ReqQuarantine, N: a.nums[0]}, out)
}

func (s *Session) explain(a arguments, out *output) api.Errno {
	answer, err := s.request(api.Request{Kind: api.ReqExplain, N: a.nums[0]})
	for _, tree := range answer.Why {
		out.tree(tree, 0)
	}
	return err
}

func (s *Session) analyse(_ arguments, out *output) api.Errno {
	return s.ask(api.Request{Kind: api.ReqAnalyse}, out)
}

func (s *Session) sync(_ arguments, out *output) api.Errno {
	return s.ask(api.Request{Kind: api.ReqSync}, out)
}

func (s *Session) crash(a arguments, out *output) api.Errno {
	return s.ask(api.Request{Kind: api.ReqCrash, N: a.nums[0]}, out)
}

func (s *Session) take(a arguments, out *output) api.Errno {
	return s.ask(api.Request{Kind: api.ReqTake, N: a.nums[0]}, out)
}

func (s *Session) status(_ arguments, out *output) api.Errno {
	answer, err := s.request(api.Request{Kind: api.ReqStatus})
	out.status(answer.Status)
	return err
}

func (s *Session) journal(_ arguments, out *output) api.Errno {
	for _, e := range s.hub(s.present).Journal() {
		out.entry(e)
	}
	return api.OK
}

func (s *Session) merge(a arguments, out *output) api.Errno {
	if !isHub(a.nums[0]) {
		return api.ErrArg
	}
	out.answer(api.Answer{})
	return s.hub(s.present).Merge(s.hub(a.nums[0]).Journal())
}

// ask makes a request, and prints the commands and findings of its answer.
func (s *Session) ask(r api.Request, out *output) api.Errno {
	answer, err := s.request(r)
	out.answer(answer)
	return err
}

// askCap makes a request for a capability, and keeps it.
func (s *Session) askCap(r api.Request, out *output) api.Errno {
	answer, err := s.request(r)
	if err == api.OK {
		s.cap = answer.Cap
		out.words("cap").nums(s.cap.Id, s.cap.Tag, len(s.cap.Caveats)).end()
	}
	return err
}
