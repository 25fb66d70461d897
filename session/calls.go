package session

import (
	"errors"

	"culvert/api"
	"culvert/stream"
)

// Open: a new stream of this end.
func (s *Session) Open() (uint32, error) {
	if err := s.mayOpen(); err != nil {
		return 0, err
	}
	id, err := s.ids.Next()
	if err != nil {
		return 0, err
	}
	st, _ := stream.New(id, s.cfg, true) // never fails: the configuration was looked at, and no id is 0
	s.mine.streams.Put(id, st)
	s.unacked.Put(id, struct{}{})
	s.put(api.TicketSYN, id, 0)
	return id, nil
}

// Accept: the first stream that waits.
func (s *Session) Accept() (uint32, error) {
	if err := s.lost(); err != nil {
		return 0, err
	}
	id, waits := s.backlog.Head()
	switch {
	case !waits:
		return 0, api.ErrEmpty
	case s.theirs.full(s.cfg.Streams):
		return 0, api.ErrLimit
	}
	s.backlog.Take()
	st, _ := s.waiting.Drop(id)
	st.Accept()
	s.theirs.streams.Put(id, st)
	s.put(api.TicketACK, id, 0)
	return id, nil
}

// Ping: the token of a ping that will be sent.
func (s *Session) Ping() (uint32, error) {
	if err := s.lost(); err != nil {
		return 0, err
	}
	token, err := s.pings.Ask()
	if err != nil {
		return 0, err
	}
	s.put(api.TicketPing, 0, token)
	return token, nil
}

// GoAway: no more streams of the other end are taken.
func (s *Session) GoAway() error {
	if err := s.lost(); err != nil {
		return err
	}
	if !s.here {
		s.here = true
		s.put(api.TicketAway, 0, api.AwayNormal)
	}
	return nil
}

// Write: stages as many bytes as there is room for; how many.
func (s *Session) Write(id uint32, p []byte) (int, error) {
	st, err := s.named(id)
	if err != nil {
		return 0, err
	}
	n, err := st.Write(p)
	return n, s.written(id, st, err)
}

// Read: up to n bytes that came.
func (s *Session) Read(id uint32, n int) ([]byte, error) {
	st, err := s.named(id)
	if err != nil {
		return nil, err
	}
	data, delta, err := st.Read(n)
	if delta > 0 {
		s.put(api.TicketGrant, id, delta)
	}
	s.told(id, st, err)
	return data, err
}

// Close: no more will be written to the stream.
func (s *Session) Close(id uint32) error {
	st, err := s.named(id)
	if err != nil {
		return err
	}
	return s.written(id, st, st.Close())
}

// Reset: the stream is given up, in both directions.
func (s *Session) Reset(id uint32) error {
	st, err := s.named(id)
	switch {
	case err != nil:
		return err
	case st.View().State == api.Reset:
		s.leave(id)
		return api.ErrReset
	case s.over != nil: // by a cut: nothing else leaves a stream to be named
		return s.over
	}
	s.leave(id)
	if s.sched.Withdraw(api.TicketSYN, id) {
		return nil
	}
	s.sched.Withdraw(api.TicketGrant, id)
	if !st.Quiet() {
		s.putRST(id, s.side(id).resets)
	}
	return nil
}

// Pongs: the tokens that were answered since the last call.
func (s *Session) Pongs() []uint32 { return s.parts().pings.Answered() }

// lost: why nothing can be begun any more, or nil.
func (s *Session) lost() error {
	if s == nil {
		return api.ErrNil
	}
	return s.over
}

// mayOpen: why no stream may be opened, or nil; whether an id is left isn't asked.
func (s *Session) mayOpen() error {
	if err := s.lost(); err != nil {
		return err
	}
	switch {
	case s.there:
		return api.ErrAway
	case s.mine.full(s.cfg.Streams) || s.unacked.Len() >= s.cfg.Backlog:
		return api.ErrLimit
	}
	return nil
}

// named: the stream of the table that a call means. Behind a cut those that are there can still be asked.
func (s *Session) named(id uint32) (*stream.Stream, error) {
	if err := s.lost(); err != nil && !errors.Is(err, api.ErrCut) {
		return nil, err
	}
	st, there := s.side(id).streams.Get(id)
	if !there {
		return nil, api.ErrNoStream
	}
	return st, nil
}

// written: how a Write or a Close has ended; what it has staged or closed may give the stream a turn.
func (s *Session) written(id uint32, st *stream.Stream, err error) error {
	s.told(id, st, err)
	s.giveTurn(id, st)
	return err
}

// told: the user hears this. If it is the end of the stream and both ends are done with it, it leaves the table; a stream that was cut is done ahead of being told, but leaves no sooner.
func (s *Session) told(id uint32, st *stream.Stream, err error) {
	end := errors.Is(err, api.ErrReset) || errors.Is(err, api.ErrEOF)
	if end && st.Done() {
		s.leave(id)
	}
}
