package session

import (
	"slices"

	"culvert/api"
)

// Err: why the session is over, if it is.
func (s *Session) Err() error { return s.parts().over }

// Away: has this end gone away, and the other?
func (s *Session) Away() (here, there bool) {
	p := s.parts()
	return p.here, p.there
}

// Left: how many numbers of its own are left.
func (s *Session) Left() int { return s.parts().ids.Left() }

// Streams: the streams of the table, rising.
func (s *Session) Streams() []uint32 {
	p := s.parts()
	all := append(p.mine.streams.IDs(), p.theirs.streams.IDs()...)
	slices.Sort(all)
	return all
}

// Waiting: the streams that wait to be accepted, in their order.
func (s *Session) Waiting() []uint32 { return s.parts().backlog.List() }

// View: what can be seen of a stream of the table, or of one that waits.
func (s *Session) View(id uint32) (api.StreamView, bool) {
	st, there := s.parts().find(id)
	return st.View(), there
}

// Tickets: the control frames that wait.
func (s *Session) Tickets() []api.Ticket { return s.parts().sched.Tickets() }

// Pinged: the tokens of this end that wait for an answer.
func (s *Session) Pinged() []uint32 { return s.parts().pings.Waiting() }

// Pending: how many bytes wait to be taken.
func (s *Session) Pending() int { return s.parts().out.Len() }

// Held: how many bytes are held in all.
func (s *Session) Held() int {
	p := s.parts()
	n := p.out.Len() + p.decoder.Held()
	for _, all := range [...]*streams{p.mine.streams, p.theirs.streams, p.waiting} {
		for _, st := range all.All() {
			n += st.Held()
		}
	}
	return n
}
