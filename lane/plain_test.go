package lane_test

import (
	"math"
	"slices"
	"testing"

	"culvert/api"
	"culvert/lane"
	"culvert/sentinels"
)

// mayBe: the chapter's table of the tickets that may be, word for word; and the errors in their order.
func mayBe(t api.Ticket) error {
	switch t.Kind {
	case 1, 2, 4:
		return first(t.Stream != 0, t.Value == 0)
	case 3:
		return first(t.Stream != 0, t.Value >= 1)
	case 5, 6:
		return first(t.Stream == 0, true)
	case 7:
		return first(t.Stream == 0, t.Value == 0 || t.Value == 1 || t.Value == 2)
	}
	return api.ErrType
}

func first(stream, value bool) error {
	switch {
	case !stream:
		return api.ErrID
	case !value:
		return api.ErrLength
	}
	return nil
}

// plain is what the chapter says that a lane keeps: tickets in an order.
type plain []api.Ticket

// same: where the first ticket of this kind and stream stands; -1 if nowhere.
func (p plain) same(kind api.TicketKind, stream uint32) int {
	return slices.IndexFunc(p, func(t api.Ticket) bool { return t.Kind == kind && t.Stream == stream })
}

func (p *plain) put(t api.Ticket) error {
	if err := mayBe(t); err != nil {
		return err
	}
	i := p.same(t.Kind, t.Stream)
	switch {
	case i < 0 || t.Kind == 5 || t.Kind == 6:
		*p = append(*p, t)
	case t.Kind != 3:
		return api.ErrTwice
	case uint64((*p)[i].Value)+uint64(t.Value) > 1<<32-1:
		return api.ErrOverflow
	default:
		(*p)[i].Value += t.Value
	}
	return nil
}

func (p *plain) next() (api.Ticket, bool) {
	if len(*p) == 0 {
		return api.Ticket{}, false
	}
	t := (*p)[0]
	*p = (*p)[1:]
	return t, true
}

func (p *plain) withdraw(kind api.TicketKind, stream uint32) bool {
	i := p.same(kind, stream)
	if i >= 0 {
		*p = slices.Delete(*p, i, i+1)
	}
	return i >= 0
}

func (p *plain) forget(stream uint32) int {
	n := len(*p)
	*p = slices.DeleteFunc(*p, func(t api.Ticket) bool { return t.Stream == stream })
	return n - len(*p)
}

func (p plain) count(kind api.TicketKind) int {
	n := 0
	for _, t := range p {
		if t.Kind == kind {
			n++
		}
	}
	return n
}

// both is a lane beside a plain one.
type both struct {
	l *lane.Lane
	p plain
}

// made: a new lane into which these tickets were put, beside a plain one.
func made(t *testing.T, tickets ...api.Ticket) *both {
	t.Helper()
	b := &both{l: lane.New()}
	if b.l == nil {
		t.Fatal("New: nil")
	}
	for _, x := range tickets {
		b.put(t, x)
	}
	b.tells(t)
	return b
}

func (b *both) put(t *testing.T, x api.Ticket) error {
	t.Helper()
	stood := slices.Clone(b.p)
	got, want := b.l.Put(x), b.p.put(x)
	if !sentinels.Just(got, want) {
		t.Fatalf("Put(%v) at %v: %v, want %v", x, stood, got, want)
	}
	return want
}

func (b *both) next(t *testing.T) (api.Ticket, bool) {
	t.Helper()
	stood := slices.Clone(b.p)
	x, ok := b.l.Next()
	if want, wantOK := b.p.next(); x != want || ok != wantOK {
		t.Fatalf("Next at %v: %v, %v, want %v, %v", stood, x, ok, want, wantOK)
	}
	return x, ok
}

func (b *both) withdraw(t *testing.T, kind api.TicketKind, stream uint32) bool {
	t.Helper()
	stood := slices.Clone(b.p)
	got, want := b.l.Withdraw(kind, stream), b.p.withdraw(kind, stream)
	if got != want {
		t.Fatalf("Withdraw(%d, %d) at %v: %v, want %v", kind, stream, stood, got, want)
	}
	return want
}

func (b *both) forget(t *testing.T, stream uint32) {
	t.Helper()
	stood := slices.Clone(b.p)
	if got, want := b.l.Forget(stream), b.p.forget(stream); got != want {
		t.Fatalf("Forget(%d) at %v: %d, want %d", stream, stood, got, want)
	}
}

func (b *both) clear(t *testing.T) {
	t.Helper()
	if got := b.l.Clear(); got != len(b.p) {
		t.Fatalf("Clear at %v: %d, want %d", b.p, got, len(b.p))
	}
	b.p = nil
}

// tells: every answer that changes nothing is the plain lane's.
func (b *both) tells(t *testing.T) {
	t.Helper()
	if got := b.l.List(); !slices.Equal(got, b.p) {
		t.Fatalf("List: %v, want %v", got, b.p)
	}
	if got := b.l.Len(); got != len(b.p) {
		t.Fatalf("Len: %d of %v", got, b.p)
	}
	for kind := api.TicketKind(-1); kind <= 9; kind++ {
		if got := b.l.Count(kind); got != b.p.count(kind) {
			t.Fatalf("Count(%d): %d of %v", kind, got, b.p)
		}
	}
}

// drains: Nexts answer what waits, in its order, and then nothing.
func (b *both) drains(t *testing.T) {
	t.Helper()
	for range len(b.p) {
		b.next(t)
	}
	b.next(t)
	b.next(t)
	b.tells(t)
}

// The kinds that may be; and numbers that may not, among them such as would fall among those if their upper bits, or their sign, were lost.
var (
	kinds   = []api.TicketKind{1, 2, 3, 4, 5, 6, 7}
	noKinds = wrongKinds()
)

func wrongKinds() []api.TicketKind {
	all := []api.TicketKind{0, 8, 9, 10, 15, 16, 99, math.MaxInt64, math.MinInt64, 1<<31 - 1, 1 << 31, -(1 << 31)}
	for _, kind := range kinds {
		for _, far := range []api.TicketKind{1 << 3, 1 << 8, 1 << 16, 1 << 32, 1 << 62, math.MinInt64} {
			all = append(all, far+kind)
		}
		all = append(all, -kind)
	}
	return all
}

// Streams and values with edges at each byte.
var (
	streams = []uint32{0, 1, 2, 3, 255, 256, 257, 1<<16 - 1, 1 << 16, 1 << 24, 1<<31 - 1, 1 << 31, 1<<31 + 1, 1<<32 - 2, 1<<32 - 1}
	values  = []uint32{0, 1, 2, 3, 4, 255, 256, 257, 258, 1<<16 - 1, 1 << 16, 1<<16 + 1, 1 << 24, 1<<31 - 1, 1 << 31, 1<<31 + 2, 1<<32 - 2, 1<<32 - 1}
)

// everyTicket: of each kind, also those that may not be, with each stream and each value of the above.
func everyTicket() []api.Ticket {
	var all []api.Ticket
	for _, kind := range append(slices.Clone(kinds), noKinds...) {
		for _, stream := range streams {
			for _, value := range values {
				all = append(all, api.Ticket{Kind: kind, Stream: stream, Value: value})
			}
		}
	}
	return all
}
