package sched_test

import (
	"slices"
	"testing"

	"culvert/api"
	"culvert/lane"
	"culvert/sched"
	"culvert/sentinels"
	"culvert/specimens"
)

// plain is what the chapter says that a Sched keeps: a lane, and streams in an order, the first one next.
type plain struct {
	tickets *lane.Lane
	turns   []uint32
}

func (p *plain) ready(id uint32) bool {
	if slices.Contains(p.turns, id) {
		return false
	}
	p.turns = append(p.turns, id)
	return true
}

func (p *plain) rest(id uint32) bool {
	i := slices.Index(p.turns, id)
	if i >= 0 {
		p.turns = slices.Delete(p.turns, i, i+1)
	}
	return i >= 0
}

func (p *plain) next(data dataFunc) (api.Frame, bool) {
	if t, ok := p.tickets.Next(); ok {
		f, err := lane.Frame(t)
		return f, err == nil
	}
	for data != nil && len(p.turns) > 0 {
		first := p.turns[0]
		p.turns = slices.Delete(p.turns, 0, 1)
		f, ok, more := data(first)
		switch {
		case ok && more:
			p.turns = append(p.turns, first)
			return f, true
		case ok:
			return f, true
		}
	}
	return api.Frame{}, false
}

// dataFunc is what Next is handed.
type dataFunc = func(id uint32) (f api.Frame, ok bool, more bool)

// has: a data by which a stream has a frame, and more behind it, as these two say; each frame tells its stream.
func has(ok, more func(id uint32) bool) dataFunc {
	return func(id uint32) (api.Frame, bool, bool) { return frameOf(id), ok(id), more(id) }
}

func always(uint32) bool { return true }
func never(uint32) bool  { return false }

// frameOf: a frame of the stream, with a payload of its own.
func frameOf(id uint32) api.Frame {
	return specimens.Data(0, id, string([]byte{byte(id), byte(id >> 8), byte(id >> 16)}))
}

// heard: the data, and the streams for which it is asked from now on.
func heard(data dataFunc) (dataFunc, *[]uint32) {
	asked := new([]uint32)
	if data == nil {
		return nil, asked
	}
	return func(id uint32) (api.Frame, bool, bool) {
		*asked = append(*asked, id)
		return data(id)
	}, asked
}

// both is a Sched beside a plain one.
type both struct {
	s *sched.Sched
	p plain
}

// made: a new Sched in which these streams have turns, beside a plain one.
func made(t *testing.T, turns ...uint32) *both {
	t.Helper()
	b := &both{sched.New(), plain{tickets: lane.New()}}
	if b.s == nil {
		t.Fatal("New: nil")
	}
	for _, id := range turns {
		b.ready(t, id)
	}
	return b
}

// filled: one in which a ticket of each kind waits too.
func filled(t *testing.T, turns ...uint32) *both {
	t.Helper()
	b := made(t, turns...)
	for _, x := range ofEachKind() {
		if b.ticket(t, x) != nil {
			t.Fatalf("Ticket(%v)", x)
		}
	}
	return b
}

func (b *both) ticket(t *testing.T, x api.Ticket) error {
	t.Helper()
	stood := b.p.tickets.List()
	got, want := b.s.Ticket(x), b.p.tickets.Put(x)
	if !sentinels.Just(got, want) {
		t.Fatalf("Ticket(%v) at %v: %v, want %v", x, stood, got, want)
	}
	return want
}

func (b *both) withdraw(t *testing.T, kind api.TicketKind, stream uint32) bool {
	t.Helper()
	stood := b.p.tickets.List()
	got, want := b.s.Withdraw(kind, stream), b.p.tickets.Withdraw(kind, stream)
	if got != want {
		t.Fatalf("Withdraw(%d, %d) at %v: %v, want %v", kind, stream, stood, got, want)
	}
	return want
}

func (b *both) ready(t *testing.T, id uint32) bool {
	t.Helper()
	stood := slices.Clone(b.p.turns)
	got, want := b.s.Ready(id), b.p.ready(id)
	if got != want {
		t.Fatalf("Ready(%d) at %v: %v, want %v", id, stood, got, want)
	}
	return want
}

func (b *both) rest(t *testing.T, id uint32) bool {
	t.Helper()
	stood := slices.Clone(b.p.turns)
	got, want := b.s.Rest(id), b.p.rest(id)
	if got != want {
		t.Fatalf("Rest(%d) at %v: %v, want %v", id, stood, got, want)
	}
	return want
}

func (b *both) forget(t *testing.T, id uint32) int {
	t.Helper()
	stood := b.p.tickets.List()
	got, want := b.s.Forget(id), b.p.tickets.Forget(id)
	if got != want {
		t.Fatalf("Forget(%d) at %v: %d, want %d", id, stood, got, want)
	}
	b.p.rest(id)
	return want
}

func (b *both) clear() {
	b.s.Clear()
	b.p = plain{tickets: lane.New()}
}

// next: the frame is the plain one's, and data was asked for the same streams in the same order; data answers a stream the same each time.
func (b *both) next(t *testing.T, data dataFunc) (api.Frame, bool) {
	t.Helper()
	tickets, turns := b.p.tickets.List(), slices.Clone(b.p.turns)
	heardOf, asked := heard(data)
	f, ok := b.s.Next(heardOf)
	heardOf, wantAsked := heard(data)
	want, wantOK := b.p.next(heardOf)
	if !sameFrame(f, want) || ok != wantOK {
		t.Fatalf("Next at %v, %v: %v, %v, want %v, %v", tickets, turns, f, ok, want, wantOK)
	}
	if !slices.Equal(*asked, *wantAsked) {
		t.Fatalf("Next at %v, %v: data was asked for %v, want %v", tickets, turns, *asked, *wantAsked)
	}
	return f, ok
}

func sameFrame(a, b api.Frame) bool {
	return specimens.Same([]api.Frame{a}, []api.Frame{b})
}

// tells: every answer that changes nothing is the plain one's.
func (b *both) tells(t *testing.T) {
	t.Helper()
	if got, want := b.s.Tickets(), b.p.tickets.List(); !slices.Equal(got, want) {
		t.Fatalf("Tickets: %v, want %v", got, want)
	}
	if got := b.s.Turns(); !slices.Equal(got, b.p.turns) {
		t.Fatalf("Turns: %v, want %v", got, b.p.turns)
	}
	for kind := api.TicketKind(-1); kind <= 9; kind++ {
		if got, want := b.s.Count(kind), b.p.tickets.Count(kind); got != want {
			t.Fatalf("Count(%d): %d, want %d of %v", kind, got, want, b.p.tickets.List())
		}
	}
}

// stands: the tickets and the turns must be these, by the chapter's words and not by the plain one's alone.
func (b *both) stands(t *testing.T, tickets []api.Ticket, turns ...uint32) {
	t.Helper()
	b.tells(t)
	if got := b.s.Tickets(); !slices.Equal(got, tickets) {
		t.Fatalf("the tickets are %v, want %v", got, tickets)
	}
	if got := b.s.Turns(); !slices.Equal(got, turns) {
		t.Fatalf("the turns are %v, want %v", got, turns)
	}
}

// drains: Nexts answer all that waits, then each stream's frame for two rounds and for a last one, and then nothing.
func (b *both) drains(t *testing.T) {
	t.Helper()
	for range b.p.tickets.Len() + 2*len(b.p.turns) {
		b.next(t, has(always, always))
	}
	for range len(b.p.turns) + 1 {
		b.next(t, has(always, never))
	}
	b.stands(t, nil)
}

func ticket(kind api.TicketKind, stream, value uint32) api.Ticket {
	return api.Ticket{Kind: kind, Stream: stream, Value: value}
}

// ofEachKind: a ticket of each kind; some are of one stream.
func ofEachKind() []api.Ticket {
	return []api.Ticket{
		ticket(api.TicketSYN, 5, 0), ticket(api.TicketACK, 2, 0), ticket(api.TicketGrant, 3, 10), ticket(api.TicketRST, 2, 0),
		ticket(api.TicketPing, 0, 7), ticket(api.TicketPong, 0, 9), ticket(api.TicketAway, 0, 2),
	}
}

// Kinds, streams and values with edges at each byte, also those that may not be.
var (
	kinds   = []api.TicketKind{-1 << 63, -1 << 31, -7, -1, 0, 1, 2, 3, 4, 5, 6, 7, 8, 9, 99, 257, 1<<32 + 3, 1<<63 - 1}
	streams = []uint32{0, 1, 2, 3, 5, 255, 256, 257, 1<<16 - 1, 1 << 16, 1 << 24, 1<<31 - 1, 1 << 31, 1<<32 - 2, 1<<32 - 1}
	values  = []uint32{0, 1, 2, 3, 255, 256, 1 << 16, 1<<31 - 1, 1 << 31, 1<<32 - 11, 1<<32 - 10, 1<<32 - 1}
)

// everyTicket: of each kind, with each stream and each value of the above.
func everyTicket() []api.Ticket {
	var all []api.Ticket
	for _, kind := range kinds {
		for _, stream := range streams {
			for _, value := range values {
				all = append(all, ticket(kind, stream, value))
			}
		}
	}
	return all
}
