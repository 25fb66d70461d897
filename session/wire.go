package session

import (
	"culvert/api"
	"culvert/stream"
)

// Feed: bytes of the other end.
func (s *Session) Feed(b []byte) error {
	if err := s.lost(); err != nil {
		return err
	}
	frames, fault := s.decoder.Feed(b)
	for _, f := range frames {
		if err := s.deed(f.Head.Type)(f); err != nil {
			return s.fail(err)
		}
	}
	if fault != nil { // behind the frames: it stands behind them in the bytes, too
		return s.fail(fault)
	}
	return nil
}

// Step: lays out one frame, if there is one and few bytes wait; did it?
func (s *Session) Step() bool {
	if s == nil || s.out.Len() >= s.cfg.Out {
		return false
	}
	f, ok := s.sched.Next(s.frameOf)
	if !ok {
		return false
	}
	s.out.Put(f) // never fails: the scheduler's frames have the payload that they say
	s.laidOut(f.Head)
	return true
}

// Take: up to n bytes for the other end.
func (s *Session) Take(n int) []byte { return s.parts().out.Take(n) }

// deed: what a frame of this type does; it answers why the session is over by it, or nil.
func (s *Session) deed(kind uint8) func(api.Frame) error {
	switch kind {
	case api.TypeData:
		return s.hearData
	case api.TypeWindow:
		return s.hearWindow
	case api.TypePing:
		return s.hearPing
	}
	return s.hearAway // the decoder lets no other type through
}

func (s *Session) hearData(f api.Frame) error {
	return s.hearStream(f.Head, func(st *stream.Stream, fin bool) error { return st.Arrive(f.Data, fin) })
}

func (s *Session) hearWindow(f api.Frame) error {
	return s.hearStream(f.Head, func(st *stream.Stream, fin bool) error { return st.Grant(f.Head.Length, fin) })
}

func (s *Session) hearPing(f api.Frame) error {
	token := f.Head.Length
	if has(f.Head, api.FlagACK) {
		return breach(f.Head, s.hearAnswer(token))
	}
	err := s.pings.Asked(token)
	if err == nil {
		s.put(api.TicketPong, 0, token)
	}
	return breach(f.Head, err)
}

func (s *Session) hearAnswer(token uint32) error {
	if token > s.lastPing {
		return api.ErrPing
	}
	return s.pings.Heard(token)
}

func (s *Session) hearAway(f api.Frame) error {
	if f.Head.Length != api.AwayNormal {
		return api.ErrPeer
	}
	s.there = true
	return nil
}

// hearStream: a frame of a stream, which may bring it something beside its flags.
func (s *Session) hearStream(h api.Header, bring func(st *stream.Stream, fin bool) error) error {
	if err := s.meet(h); err != nil {
		return breach(h, err)
	}
	st, there := s.find(h.Stream)
	switch {
	case has(h, api.FlagRST):
		s.wasReset(h.Stream, st)
		return nil
	case !there:
		return nil
	case has(h, api.FlagACK):
		s.wasAccepted(h.Stream, st)
	}
	fin := has(h, api.FlagFIN)
	if err := bring(st, fin); err != nil {
		return breach(h, err)
	}
	if fin {
		s.sched.Withdraw(api.TicketGrant, h.Stream)
	}
	s.giveTurn(h.Stream, st)
	return nil
}

// meet: may the frame name its stream? With SYN the stream begins by it.
func (s *Session) meet(h api.Header) error {
	if has(h, api.FlagSYN) {
		return s.begin(h.Stream)
	}
	if !s.ids.Known(h.Stream) {
		return api.ErrUnknown
	}
	return nil
}

// begin: a stream of the other end waits, or is refused.
func (s *Session) begin(id uint32) error {
	if err := s.ids.Hear(id); err != nil {
		return err
	}
	switch {
	case s.backlog.Len()+s.refused.Len() >= s.cfg.Backlog:
		return api.ErrFlood
	case s.here:
		s.putRST(id, s.refused)
		return nil
	}
	st, _ := stream.New(id, s.cfg, false) // never fails: the configuration was looked at, and no stream's frame has the id 0
	s.waiting.Put(id, st)
	return s.backlog.Put(id) // never fails: it has room, and the id wasn't heard before
}

// wasReset: by the other end; st is nil, if the stream is gone.
func (s *Session) wasReset(id uint32, st *stream.Stream) {
	s.sched.Forget(id)
	s.dropRST(id)
	st.Reset() // one of the table stays there till that is told
	s.backlog.Remove(id)
	s.waiting.Drop(id)
}

// wasAccepted: by the other end, if the stream is one that it can accept, and hasn't yet.
func (s *Session) wasAccepted(id uint32, st *stream.Stream) {
	if s.ids.Mine(id) && st.Accept() == nil {
		s.unacked.Drop(id)
	}
}

// frameOf: the next Data frame of a stream that has a turn, and whether there is one more behind it.
func (s *Session) frameOf(id uint32) (f api.Frame, ok, more bool) {
	st, _ := s.find(id)
	f, ok = st.Frame()
	return f, ok, st.Ready()
}

// laidOut: what goes with a frame's being laid out, beside its bytes.
func (s *Session) laidOut(h api.Header) {
	switch h.Type {
	case api.TypeData:
		if st, _ := s.find(h.Stream); st.Done() {
			s.leave(h.Stream)
		}
	case api.TypeWindow:
		if has(h, api.FlagSYN) {
			s.ids.Sent(h.Stream) // never fails: SYNs are laid out in the order in which their ids were given
		}
		if has(h, api.FlagRST) {
			s.dropRST(h.Stream)
		}
	case api.TypePing:
		if has(h, api.FlagSYN) {
			s.lastPing = h.Length
		} else {
			s.pings.Replied()
		}
	}
}

func has(h api.Header, flag uint16) bool { return h.Flags&flag != 0 }

// breach: the violation that the frame is for this reason; nil, if there is none.
func breach(h api.Header, why error) error {
	if why == nil {
		return nil
	}
	return &api.Violation{Stream: h.Stream, Why: why}
}
