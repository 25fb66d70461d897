package lane_test

import (
	"bytes"
	"math"
	"slices"
	"testing"

	"culvert/api"
	"culvert/frame"
	"culvert/lane"
	"culvert/sentinels"
)

// ticket: one in a line.
func ticket(kind api.TicketKind, stream, value uint32) api.Ticket {
	return api.Ticket{Kind: kind, Stream: stream, Value: value}
}

// puts: a Put that must end so, by the chapter's words and not by the plain lane's alone.
func (b *both) puts(t *testing.T, x api.Ticket, want error) {
	t.Helper()
	if got := b.put(t, x); got != want {
		t.Fatalf("the plain lane's Put(%v): %v, want %v", x, got, want)
	}
	b.tells(t)
}

// lists: what waits must be this, by the chapter's words and not by the plain lane's alone.
func (b *both) lists(t *testing.T, want ...api.Ticket) {
	t.Helper()
	b.tells(t)
	if !slices.Equal(b.p, want) {
		t.Fatalf("waiting: %v, want %v", b.p, want)
	}
}

// some: tickets of all kinds, of which some have the same stream, the same value or the same kind.
func some() []api.Ticket {
	return []api.Ticket{
		ticket(api.TicketPing, 0, 7), ticket(api.TicketSYN, 5, 0), ticket(api.TicketGrant, 3, 10),
		ticket(api.TicketPong, 0, 7), ticket(api.TicketGrant, 5, 1<<32-1), ticket(api.TicketRST, 3, 0),
		ticket(api.TicketPing, 0, 7), ticket(api.TicketACK, 3, 0), ticket(api.TicketAway, 0, 1),
		ticket(api.TicketSYN, 1<<32-1, 0), ticket(api.TicketPing, 0, 8),
	}
}

func TestP11_1_TheChaptersExamples(t *testing.T) {
	b := made(t)
	b.puts(t, ticket(api.TicketSYN, 5, 0), nil)
	b.puts(t, ticket(api.TicketGrant, 3, 10), nil)
	b.puts(t, ticket(api.TicketPing, 0, 7), nil)
	b.puts(t, ticket(api.TicketGrant, 3, 4), nil)
	b.puts(t, ticket(api.TicketSYN, 5, 0), api.ErrTwice)
	b.puts(t, ticket(api.TicketGrant, 3, 4294967290), api.ErrOverflow)
	b.lists(t, ticket(api.TicketSYN, 5, 0), ticket(api.TicketGrant, 3, 14), ticket(api.TicketPing, 0, 7))
	b.puts(t, ticket(api.TicketRST, 0, 0), api.ErrID)
	b.puts(t, ticket(api.TicketGrant, 3, 0), api.ErrLength)
	b.puts(t, ticket(api.TicketAway, 0, 3), api.ErrLength)
	b.puts(t, ticket(9, 0, 0), api.ErrType)
	if b.l.Withdraw(api.TicketSYN, 3) {
		t.Error("Withdraw of what isn't there")
	}
	if x, ok := b.l.Next(); x != ticket(api.TicketSYN, 5, 0) || !ok {
		t.Errorf("Next: %v, %v", x, ok)
	}
	if n := b.l.Forget(3); n != 1 {
		t.Errorf("Forget(3): %d", n)
	}
	if n := b.l.Count(api.TicketPing); n != 1 {
		t.Errorf("Count of pings: %d", n)
	}
	if n := b.l.Clear(); n != 1 {
		t.Errorf("Clear: %d", n)
	}
	if x, ok := b.l.Next(); x != (api.Ticket{}) || ok {
		t.Errorf("Next of an empty lane: %v, %v", x, ok)
	}
}

func TestP11_1_NewIsEmpty(t *testing.T) {
	b := made(t)
	b.lists(t)
	for _, kind := range append(slices.Clone(kinds), noKinds...) {
		for _, stream := range streams {
			b.withdraw(t, kind, stream)
		}
	}
	for _, stream := range streams {
		b.forget(t, stream)
	}
	b.clear(t)
	b.drains(t)
}

// Put and Frame fail alike; what waits changes neither which tickets may be nor by a Put that fails.
func TestP11_1_WhichTicketsMayBe(t *testing.T) {
	full := made(t, some()...)
	for _, x := range everyTicket() {
		want := mayBe(x)
		made(t).puts(t, x, want)
		f, err := lane.Frame(x)
		if !sentinels.Just(err, want) {
			t.Fatalf("Frame(%v): %v, want %v", x, err, want)
		}
		if err != nil && (f.Head != api.Header{} || len(f.Data) != 0) {
			t.Fatalf("Frame(%v): %v beside an error", x, f)
		}
		if want != nil {
			full.puts(t, x, want)
		}
	}
	full.lists(t, some()...)
}

// Of several errors the first is answered: the kind's, the stream's, the value's, that there is one, the sum's.
func TestP11_1_TheFirstErrorIsAnswered(t *testing.T) {
	b := made(t, ticket(api.TicketRST, 3, 0), ticket(api.TicketGrant, 3, 1<<32-1), ticket(api.TicketAway, 0, 2))
	for _, c := range []struct {
		x    api.Ticket
		want error
	}{
		{ticket(0, 3, 3), api.ErrType}, {ticket(8, 0, 3), api.ErrType}, {ticket(-1, 3, 1<<32-1), api.ErrType},
		{ticket(api.TicketSYN, 0, 1), api.ErrID}, {ticket(api.TicketACK, 0, 1), api.ErrID},
		{ticket(api.TicketGrant, 0, 0), api.ErrID}, {ticket(api.TicketRST, 0, 1), api.ErrID},
		{ticket(api.TicketAway, 1, 3), api.ErrID}, {ticket(api.TicketPing, 1, 0), api.ErrID}, {ticket(api.TicketPong, 1<<32-1, 0), api.ErrID},
		{ticket(api.TicketRST, 3, 1), api.ErrLength}, {ticket(api.TicketGrant, 3, 0), api.ErrLength}, {ticket(api.TicketAway, 0, 3), api.ErrLength},
		{ticket(api.TicketRST, 3, 0), api.ErrTwice}, {ticket(api.TicketAway, 0, 2), api.ErrTwice}, {ticket(api.TicketGrant, 3, 1), api.ErrOverflow},
	} {
		b.puts(t, c.x, c.want)
	}
}

func TestP11_1_OneIsEnough(t *testing.T) {
	for _, x := range []api.Ticket{
		ticket(api.TicketSYN, 5, 0), ticket(api.TicketACK, 5, 0), ticket(api.TicketRST, 5, 0), ticket(api.TicketAway, 0, 1),
	} {
		others := slices.DeleteFunc(some(), func(o api.Ticket) bool { return o.Kind == x.Kind && o.Stream == x.Stream })
		for at := range len(others) + 1 {
			b := made(t, slices.Insert(slices.Clone(others), at, x)...)
			b.puts(t, x, api.ErrTwice)
			b.puts(t, x, api.ErrTwice)
		}
	}
}

// An Away is there twice whatever its code.
func TestP11_1_OneAwayIsEnoughOfAllCodes(t *testing.T) {
	for code := range uint32(3) {
		for again := range uint32(3) {
			b := made(t, ticket(api.TicketAway, 0, code), ticket(api.TicketPing, 0, code))
			b.puts(t, ticket(api.TicketAway, 0, again), api.ErrTwice)
			b.lists(t, ticket(api.TicketAway, 0, code), ticket(api.TicketPing, 0, code))
		}
	}
}

// A ticket is there twice only if both its kind and its stream are there in one ticket.
func TestP11_1_OneKindOfManyStreamsAndOneStreamInManyKinds(t *testing.T) {
	b := made(t)
	for _, kind := range []api.TicketKind{api.TicketSYN, api.TicketACK, api.TicketRST} {
		for _, stream := range streams[1:] {
			b.puts(t, ticket(kind, stream, 0), nil)
		}
	}
	for _, stream := range streams[1:] {
		b.puts(t, ticket(api.TicketGrant, stream, stream), nil)
	}
	for _, kind := range []api.TicketKind{api.TicketRST, api.TicketSYN, api.TicketACK} {
		for _, stream := range streams[1:] {
			b.puts(t, ticket(kind, stream, 0), api.ErrTwice)
		}
	}
	b.drains(t)
}

func TestP11_1_OfPingsAndPongsAnyNumberMayWait(t *testing.T) {
	b := made(t)
	for i := range 300 {
		for _, kind := range []api.TicketKind{api.TicketPing, api.TicketPong} {
			b.puts(t, ticket(kind, 0, 7), nil)
			b.puts(t, ticket(kind, 0, uint32(i)), nil)
		}
	}
	if b.l.Count(api.TicketPing) != 600 || b.l.Count(api.TicketPong) != 600 || b.l.Len() != 1200 {
		t.Fatalf("%d pings, %d pongs, %d in all", b.l.Count(api.TicketPing), b.l.Count(api.TicketPong), b.l.Len())
	}
	b.drains(t)
}

func TestP11_1_TheEdgeOfASumOfGrants(t *testing.T) {
	for _, waiting := range values[1:] {
		for _, d := range values[1:] {
			b := made(t, ticket(api.TicketSYN, 9, 0), ticket(api.TicketGrant, 9, waiting), ticket(api.TicketGrant, 8, 1<<32-1))
			sum := uint64(waiting) + uint64(d)
			if sum > math.MaxUint32 {
				b.puts(t, ticket(api.TicketGrant, 9, d), api.ErrOverflow)
				sum = uint64(waiting)
			} else {
				b.puts(t, ticket(api.TicketGrant, 9, d), nil)
			}
			b.lists(t, ticket(api.TicketSYN, 9, 0), ticket(api.TicketGrant, 9, uint32(sum)), ticket(api.TicketGrant, 8, 1<<32-1))
			room := math.MaxUint32 - uint32(sum)
			if room < math.MaxUint32 {
				b.puts(t, ticket(api.TicketGrant, 9, room+1), api.ErrOverflow)
			}
			if room > 0 {
				b.puts(t, ticket(api.TicketGrant, 9, room), nil)
			}
			b.puts(t, ticket(api.TicketGrant, 9, 1), api.ErrOverflow)
		}
	}
}

// What has gone out, by whichever call, waits no more: its like stands behind all others then.
func TestP11_1_BehindItsGoingATicketMayComeAgain(t *testing.T) {
	for _, x := range []api.Ticket{
		ticket(api.TicketSYN, 5, 0), ticket(api.TicketACK, 5, 0), ticket(api.TicketGrant, 5, 1<<32-1),
		ticket(api.TicketRST, 5, 0), ticket(api.TicketAway, 0, 1), ticket(api.TicketPing, 0, 3), ticket(api.TicketPong, 0, 3),
	} {
		for _, goes := range []func(b *both){
			func(b *both) { b.next(t) },
			func(b *both) { b.withdraw(t, x.Kind, x.Stream) },
			func(b *both) { b.forget(t, x.Stream) },
			func(b *both) { b.clear(t) },
		} {
			b := made(t)
			for range 3 {
				b.puts(t, x, nil)
				b.puts(t, ticket(api.TicketSYN, 77, 0), nil)
				goes(b)
				b.tells(t)
				b.puts(t, x, nil)
				b.drains(t)
			}
		}
	}
}

func TestP11_1_WithdrawTakesTheFirstOfItsKindAndStream(t *testing.T) {
	ping, pong, away := ticket(api.TicketPing, 0, 1), ticket(api.TicketPong, 0, 2), ticket(api.TicketAway, 0, 0)
	b := made(t, pong, ping, ticket(api.TicketPing, 0, 3), away, ticket(api.TicketPing, 0, 1))
	b.withdraw(t, api.TicketPing, 0)
	b.lists(t, pong, ticket(api.TicketPing, 0, 3), away, ping)
	b.withdraw(t, api.TicketPing, 0)
	b.lists(t, pong, away, ping)
	b.withdraw(t, api.TicketAway, 0)
	b.lists(t, pong, ping)
	b.withdraw(t, api.TicketPing, 0)
	b.lists(t, pong)
	b.withdraw(t, api.TicketPing, 0)
	b.withdraw(t, api.TicketPong, 0)
	b.lists(t)
}

func TestP11_1_WithdrawOfAnyKindAndStream(t *testing.T) {
	there := 0
	for _, kind := range append(slices.Clone(kinds), noKinds...) {
		for _, stream := range append(slices.Clone(streams), 5, 7) {
			b := made(t, some()...)
			if b.withdraw(t, kind, stream) {
				there++
			}
			b.tells(t)
			b.withdraw(t, kind, stream)
			b.drains(t)
		}
	}
	if there != 9 { // the kinds and streams of some
		t.Errorf("%d were there", there)
	}
}

// With the grant its whole sum goes; the next one begins anew.
func TestP11_1_AGrantThatWasAddedToGoesAsAWhole(t *testing.T) {
	b := made(t, ticket(api.TicketGrant, 3, 10), ticket(api.TicketSYN, 5, 0), ticket(api.TicketGrant, 3, 1<<32-11))
	b.withdraw(t, api.TicketGrant, 3)
	b.lists(t, ticket(api.TicketSYN, 5, 0))
	b.puts(t, ticket(api.TicketGrant, 3, 2), nil)
	b.puts(t, ticket(api.TicketGrant, 3, 3), nil)
	b.lists(t, ticket(api.TicketSYN, 5, 0), ticket(api.TicketGrant, 3, 5))
	b.forget(t, 3)
	b.puts(t, ticket(api.TicketGrant, 3, 7), nil)
	b.lists(t, ticket(api.TicketSYN, 5, 0), ticket(api.TicketGrant, 3, 7))
}

func TestP11_1_ForgetTakesAllOfAStream(t *testing.T) {
	for _, stream := range append(slices.Clone(streams), 5, 7) {
		b := made(t, some()...)
		b.forget(t, stream)
		b.tells(t)
		b.forget(t, stream)
		for _, x := range some() { // those that have gone may come again, the others are still there
			b.put(t, x)
		}
		b.drains(t)
	}
	b := made(t, some()...)
	if n := b.l.Forget(0); n != 5 {
		t.Errorf("Forget(0): %d, want the pings, the pongs and the Away", n)
	}
	if n := b.l.Forget(3); n != 3 {
		t.Errorf("Forget(3): %d", n)
	}
}

func TestP11_1_ClearTakesAll(t *testing.T) {
	for n := range len(some()) + 1 {
		b := made(t, some()[:n]...)
		b.clear(t)
		b.lists(t)
		b.clear(t)
		for _, x := range some() {
			b.puts(t, x, nil)
		}
		b.drains(t)
	}
}

func TestP11_1_CountOfAnyKind(t *testing.T) {
	b := made(t, some()...)
	for kind, want := range map[api.TicketKind]int{1: 2, 2: 1, 3: 2, 4: 1, 5: 3, 6: 1, 7: 1} {
		if got := b.l.Count(kind); got != want {
			t.Errorf("Count(%d): %d, want %d", kind, got, want)
		}
	}
	for _, kind := range noKinds {
		if got := b.l.Count(kind); got != 0 {
			t.Errorf("Count(%d): %d", kind, got)
		}
	}
}

// A grant that is added counts no more than the one that waits.
func TestP11_2_AGrantIsAddedAtThePlaceOfTheOneThatWaits(t *testing.T) {
	for at := range 4 {
		tickets := []api.Ticket{ticket(api.TicketSYN, 3, 0), ticket(api.TicketPing, 0, 7), ticket(api.TicketGrant, 5, 9)}
		b := made(t, slices.Insert(tickets, at, ticket(api.TicketGrant, 3, 1))...)
		b.puts(t, ticket(api.TicketGrant, 3, 2), nil)
		b.puts(t, ticket(api.TicketAway, 0, 0), nil)
		b.puts(t, ticket(api.TicketGrant, 3, 4), nil)
		if b.p[at] != ticket(api.TicketGrant, 3, 7) || b.l.Len() != 5 || b.l.Count(api.TicketGrant) != 2 {
			t.Fatalf("at %d: %v", at, b.l.List())
		}
		b.drains(t)
	}
}

// F5: the first come is the first served, whatever its kind.
func TestP11_2_EveryOrderOfFourTickets(t *testing.T) {
	kinds := []api.Ticket{
		ticket(api.TicketSYN, 5, 0), ticket(api.TicketACK, 5, 0), ticket(api.TicketGrant, 5, 1), ticket(api.TicketRST, 5, 0),
		ticket(api.TicketPing, 0, 1), ticket(api.TicketPong, 0, 1), ticket(api.TicketAway, 0, 1),
	}
	for n := range len(kinds) * len(kinds) * len(kinds) * len(kinds) {
		b := made(t)
		for range 4 {
			b.put(t, kinds[n%len(kinds)])
			n /= len(kinds)
		}
		b.tells(t)
		b.drains(t)
	}
}

// Each ticket that may be, of those with an edge in them.
func lawfulTickets() []api.Ticket {
	return slices.DeleteFunc(everyTicket(), func(x api.Ticket) bool { return mayBe(x) != nil })
}

func TestP11_4_TheChaptersTableOfFrames(t *testing.T) {
	heads := map[api.TicketKind]api.Header{
		1: {Type: 1, Flags: 1}, 2: {Type: 1, Flags: 2}, 3: {Type: 1}, 4: {Type: 1, Flags: 8},
		5: {Type: 2, Flags: 1}, 6: {Type: 2, Flags: 2}, 7: {Type: 3},
	}
	for _, x := range lawfulTickets() {
		want := heads[x.Kind]
		want.Stream, want.Length = x.Stream, x.Value
		f, err := lane.Frame(x)
		if f.Head != want || len(f.Data) != 0 || err != nil {
			t.Fatalf("Frame(%v): %v, %v, want %v", x, f, err, want)
		}
	}
}

func TestP11_4_TheChaptersBytes(t *testing.T) {
	for text, x := range map[string]api.Ticket{
		"\x00\x01\x00\x00\x00\x00\x00\x03\x00\x00\x00\x0e": ticket(api.TicketGrant, 3, 14),
		"\x00\x02\x00\x02\x00\x00\x00\x00\x00\x00\x00\x09": ticket(api.TicketPong, 0, 9),
		"\x00\x01\x00\x01\x00\x00\x00\x01\x00\x00\x00\x00": ticket(api.TicketSYN, 1, 0),  // the whole's first example
		"\x00\x03\x00\x00\x00\x00\x00\x00\x00\x00\x00\x01": ticket(api.TicketAway, 0, 1), // the whole's sixth
	} {
		f, err := lane.Frame(x)
		b, err2 := frame.Bytes(f)
		if string(b) != text || err != nil || err2 != nil {
			t.Errorf("Frame(%v): %x, %v, %v", x, b, err, err2)
		}
	}
}

func TestP11_4_EachFrameIsAcceptedAndIsItsHeaderAlone(t *testing.T) {
	for _, x := range lawfulTickets() {
		f, err := lane.Frame(x)
		if err != nil {
			t.Fatalf("Frame(%v): %v", x, err)
		}
		for _, most := range []int{1, 2, 3, 255, api.MaxFrame, math.MaxInt} {
			if err := frame.Check(f.Head, most); err != nil {
				t.Fatalf("Frame(%v): %v: with %d: %v", x, f, most, err)
			}
		}
		all, err := frame.Bytes(f)
		if err != nil || !bytes.Equal(all, frame.Encode(f.Head)) || len(all) != api.HeaderSize {
			t.Fatalf("Frame(%v): %x, %v", x, all, err)
		}
	}
}

func TestP11_4_UnlikeTicketsStandForUnlikeFrames(t *testing.T) {
	by := map[string]api.Ticket{}
	for _, x := range lawfulTickets() {
		f, err := lane.Frame(x)
		if err != nil {
			t.Fatalf("Frame(%v): %v", x, err)
		}
		text := string(frame.Encode(f.Head))
		if like, ok := by[text]; ok {
			t.Fatalf("%v and %v stand for the same frame", x, like)
		}
		by[text] = x
	}
	if len(by) < 3*14+14*17+2*18+3 {
		t.Fatalf("only %d tickets", len(by))
	}
}

// Whatever waits anywhere.
func TestP11_4_FrameLooksAtNoLane(t *testing.T) {
	b := made(t, some()...)
	for _, x := range some() {
		before, err := lane.Frame(x)
		if err != nil {
			t.Fatalf("Frame(%v): %v", x, err)
		}
		b.put(t, x)
		after, err := lane.Frame(x)
		if after.Head != before.Head || err != nil {
			t.Fatalf("Frame(%v): %v, then %v, %v", x, before, after, err)
		}
	}
}
