package lane_test

import (
	"slices"
	"sync"
	"testing"

	"culvert/api"
	"culvert/draws"
	"culvert/lane"
	"culvert/sentinels"
)

// spoil writes over all of a list, its spare room too.
func spoil(list []api.Ticket) {
	list = list[:cap(list)]
	for i := range list {
		list[i] = ticket(99, 99, 99)
	}
}

func TestP11_5_ListAnswersNewMemory(t *testing.T) {
	b := made(t)
	for _, x := range append(some(), some()...) { // the second time some fail, and pings come again
		spoil(b.l.List())
		b.put(t, x)
		one, two := b.l.List(), b.l.List()
		spoil(one)
		if !slices.Equal(two, b.p) {
			t.Fatalf("List: %v behind writing over another, want %v", two, b.p)
		}
		b.tells(t)
	}
	for b.l.Len() > 0 {
		stood := b.l.List()
		b.next(t)
		spoil(stood)
		b.tells(t)
	}
}

// What was answered stays as it was, whatever becomes of the lane.
func TestP11_5_AListThatWasAnsweredStays(t *testing.T) {
	b := made(t, some()...)
	list := b.l.List()
	b.puts(t, ticket(api.TicketGrant, 3, 5), nil)
	b.puts(t, ticket(api.TicketPing, 0, 11), nil)
	b.next(t)
	b.withdraw(t, api.TicketSYN, 5)
	b.forget(t, 3)
	b.clear(t)
	for range 30 {
		b.puts(t, ticket(api.TicketPong, 0, 12), nil)
	}
	if !slices.Equal(list, some()) {
		t.Errorf("the list has become %v", list)
	}
}

func TestR4_APutThatFailsChangesNothing(t *testing.T) {
	b := made(t, some()...)
	b.next(t)
	b.withdraw(t, api.TicketSYN, 5)
	stood := b.l.List()
	for _, x := range everyTicket() {
		if beside := slices.Clone(b.p); beside.put(x) == nil { // it would be taken
			continue
		}
		if b.put(t, x) == nil {
			t.Fatalf("Put(%v) was taken", x)
		}
	}
	b.lists(t, stood...)
	b.drains(t)
}

func TestR7_ANilLaneIsAnEmptyOne(t *testing.T) {
	var l *lane.Lane
	for range 2 {
		for _, x := range append(everyTicket(), api.Ticket{}) {
			if err := l.Put(x); !sentinels.Just(err, api.ErrNil) {
				t.Fatalf("Put(%v): %v", x, err)
			}
			if l.Withdraw(x.Kind, x.Stream) || l.Forget(x.Stream) != 0 || l.Count(x.Kind) != 0 {
				t.Fatalf("Withdraw, Forget or Count of %v", x)
			}
		}
		if x, ok := l.Next(); x != (api.Ticket{}) || ok {
			t.Errorf("Next: %v, %v", x, ok)
		}
		if l.Clear() != 0 || l.Len() != 0 || len(l.List()) != 0 {
			t.Error("Clear, Len or List")
		}
	}
}

// The tickets of the short runs: of each kind one, some that are added up, some that are there twice, some that may not be.
var few = []api.Ticket{
	ticket(api.TicketSYN, 1, 0), ticket(api.TicketACK, 1, 0), ticket(api.TicketRST, 2, 0),
	ticket(api.TicketGrant, 1, 1), ticket(api.TicketGrant, 1, 1<<32-2), ticket(api.TicketGrant, 2, 1<<31),
	ticket(api.TicketPing, 0, 1), ticket(api.TicketPong, 0, 1), ticket(api.TicketAway, 0, 2),
}

// shortCalls: each call of the short runs, with the errors' own among them.
func shortCalls(t *testing.T) []func(b *both) {
	var calls []func(b *both)
	for _, x := range append(few, ticket(0, 1, 0), ticket(api.TicketAway, 0, 3)) {
		calls = append(calls, func(b *both) { b.put(t, x) })
	}
	for _, w := range []api.Ticket{ticket(api.TicketSYN, 1, 0), ticket(api.TicketGrant, 1, 0), ticket(api.TicketPing, 0, 0)} {
		calls = append(calls, func(b *both) { b.withdraw(t, w.Kind, w.Stream) })
	}
	for stream := range uint32(3) {
		calls = append(calls, func(b *both) { b.forget(t, stream) })
	}
	return append(calls, func(b *both) { b.next(t) }, func(b *both) { b.clear(t) })
}

func TestP11_1_EveryOrderOfFourCalls(t *testing.T) {
	calls := shortCalls(t)
	for n := range len(calls) * len(calls) * len(calls) * len(calls) {
		b := made(t)
		for range 4 {
			calls[n%len(calls)](b)
			n /= len(calls)
		}
		b.tells(t)
		b.drains(t)
	}
}

// threes: every three of the few tickets, one behind the other.
func threes() [][]api.Ticket {
	var all [][]api.Ticket
	for _, x := range few {
		for _, y := range few {
			for _, z := range few {
				all = append(all, []api.Ticket{x, y, z})
			}
		}
	}
	return all
}

// Each call at each lane that a few tickets make, those with others gone out ahead of them too.
func TestP11_1_EveryCallAtEveryLaneOfThree(t *testing.T) {
	calls := shortCalls(t)
	for _, tickets := range threes() {
		for _, call := range calls {
			for _, gone := range []int{0, 1, 4} {
				ahead := slices.Repeat([]api.Ticket{ticket(api.TicketPing, 0, 99)}, gone)
				b := made(t, append(ahead, tickets...)...)
				for range gone {
					b.next(t)
				}
				call(b)
				b.tells(t)
				b.drains(t)
			}
		}
	}
}

// ledger is what P11.3 counts of each stream's grants.
type ledger struct {
	went, came, taken map[uint32]uint64
}

func newLedger() ledger {
	return ledger{map[uint32]uint64{}, map[uint32]uint64{}, map[uint32]uint64{}}
}

// holds: what came out and what waits is what went in, less what was taken out otherwise.
func (a ledger) holds(t *testing.T, l *lane.Lane) {
	t.Helper()
	waits := map[uint32]uint64{}
	for _, x := range l.List() {
		if x.Kind != api.TicketGrant {
			continue
		}
		if waits[x.Stream] != 0 {
			t.Fatalf("two grants of %d wait", x.Stream)
		}
		waits[x.Stream] = uint64(x.Value)
	}
	for stream, went := range a.went {
		if a.came[stream]+waits[stream]+a.taken[stream] != went {
			t.Fatalf("grants of %d: %d went in, %d came out, %d wait, %d were taken out",
				stream, went, a.came[stream], waits[stream], a.taken[stream])
		}
	}
}

// waiting: the Value of the stream's grant that waits.
func waiting(l *lane.Lane, stream uint32) uint64 {
	for _, x := range l.List() {
		if x.Kind == api.TicketGrant && x.Stream == stream {
			return uint64(x.Value)
		}
	}
	return 0
}

func TestP11_3_NoGrantIsLostOrDoubled(t *testing.T) {
	for seed := range draws.Draws(40) {
		l, a := lane.New(), newLedger()
		for range 400 {
			stream := uint32(seed.Below(4)) + 1
			waits := waiting(l, stream)
			switch n := seed.Below(24); {
			case n < 14:
				delta := drawnValue(&seed)
				if l.Put(ticket(api.TicketGrant, stream, delta)) == nil {
					a.went[stream] += uint64(delta)
				}
			case n < 17:
				l.Put(ticket(api.TicketSYN, stream, 0))
			case n < 21:
				if x, ok := l.Next(); ok && x.Kind == api.TicketGrant {
					a.came[x.Stream] += uint64(x.Value)
				}
			case n == 21:
				l.Withdraw(api.TicketGrant, stream)
				a.taken[stream] += waits
			case n == 22:
				l.Forget(stream)
				a.taken[stream] += waits
			default:
				l.Withdraw(api.TicketSYN, stream)
			}
			a.holds(t, l)
		}
	}
}

// drawnValue: small ones mostly, and such as overflow soon.
func drawnValue(row *draws.Draws) uint32 {
	if row.Below(4) > 0 {
		return uint32(row.Below(4))
	}
	return values[row.Below(len(values))]
}

// drawnTicket: mostly one that may be.
func drawnTicket(row *draws.Draws) api.Ticket {
	x := ticket(kinds[row.Below(len(kinds))], uint32(row.Below(9)), drawnValue(row))
	if row.Below(12) == 0 {
		return x
	}
	switch x.Kind {
	case api.TicketGrant:
	case api.TicketPing, api.TicketPong:
		x.Stream = 0
	case api.TicketAway:
		x.Stream, x.Value = 0, x.Value%3
	default:
		x.Value = 0
	}
	return x
}

// turn: one drawn call; the more puts there are, the longer the lane grows.
func (b *both) turn(t *testing.T, row *draws.Draws, puts int) {
	t.Helper()
	switch n := row.Below(64); {
	case n < puts:
		b.put(t, drawnTicket(row))
	case n < 56:
		b.next(t)
	case n < 61:
		x := drawnTicket(row)
		b.withdraw(t, x.Kind, x.Stream)
	case n < 63:
		b.forget(t, uint32(row.Below(9)))
	case row.Below(4) == 0:
		b.clear(t)
	}
}

// R9: two lanes at once, neither of which hears of the other.
func TestP11_1_LongRunsOfTwoLanes(t *testing.T) {
	for seed := range draws.Draws(30) {
		puts := 20 + seed.Below(36)
		lanes := [2]*both{made(t), made(t)}
		for range 1500 {
			b := lanes[seed.Below(2)]
			b.turn(t, &seed, puts)
			b.tells(t)
		}
		lanes[0].drains(t)
		lanes[1].drains(t)
	}
}

// F9: whoever puts tickets in bounds them; the lane does not.
func TestF9_TheLaneHasNoBoundOfItsOwn(t *testing.T) {
	const many = 1 << 18 // far more than a session with the greatest Config has
	l := lane.New()
	kinds := []api.TicketKind{api.TicketSYN, api.TicketACK, api.TicketGrant, api.TicketRST}
	for i := range uint32(many) {
		if err := l.Put(ticket(kinds[i%4], i/4+1, i%4/2*(1-i%2))); err != nil {
			t.Fatalf("Put number %d: %v", i, err)
		}
	}
	for i := range uint32(many / 4) {
		if err := l.Put(ticket(api.TicketSYN, i+1, 0)); !sentinels.Just(err, api.ErrTwice) {
			t.Fatalf("Put of a SYN of %d again: %v", i+1, err)
		}
		if err := l.Put(ticket(api.TicketGrant, i+1, i+1)); err != nil {
			t.Fatalf("Put of a grant of %d: %v", i+1, err)
		}
	}
	if l.Len() != many || l.Count(api.TicketRST) != many/4 || len(l.List()) != many {
		t.Fatalf("Len %d, Count %d, List of %d", l.Len(), l.Count(api.TicketRST), len(l.List()))
	}
	if !l.Withdraw(api.TicketRST, many/4) || l.Forget(1) != 4 {
		t.Fatal("Withdraw or Forget")
	}
	for i := range uint32(many - 5) {
		want := ticket(kinds[i%4], i/4+2, 0)
		if want.Kind == api.TicketGrant {
			want.Value = want.Stream + 1
		}
		if x, ok := l.Next(); x != want || !ok {
			t.Fatalf("Next number %d: %v, %v, want %v", i, x, ok, want)
		}
	}
	if l.Clear() != 0 {
		t.Fatal("something is left")
	}
}

func TestR9_LanesAtTheSameTime(t *testing.T) {
	var all sync.WaitGroup
	lists := make([][]api.Ticket, 8)
	for i := range lists {
		all.Go(func() {
			l, seed := lane.New(), draws.Draws(i%2)
			for range 300 {
				x := drawnTicket(&seed)
				l.Put(x)
				lane.Frame(x)
				if seed.Below(3) == 0 {
					l.Next()
				}
			}
			lists[i] = l.List()
		})
	}
	all.Wait()
	for i, list := range lists {
		if len(list) == 0 || !slices.Equal(list, lists[i%2]) {
			t.Errorf("lane %d: %v, not %v", i, list, lists[i%2])
		}
	}
}
