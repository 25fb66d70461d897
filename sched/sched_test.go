package sched_test

import (
	"slices"
	"testing"

	"culvert/api"
	"culvert/lane"
	"culvert/sched"
	"culvert/sentinels"
	"culvert/specimens"
)

// The chapter's examples, in their order.
func TestP13_1_Examples(t *testing.T) {
	s := sched.New()
	data := func(id uint32) (api.Frame, bool, bool) { return specimens.Data(0, id, "x"), true, id != 3 }
	nexts := func(data dataFunc, want api.Frame, wantOK bool) {
		t.Helper()
		if f, ok := s.Next(data); !sameFrame(f, want) || ok != wantOK {
			t.Errorf("Next: %v, %v, want %v, %v", f, ok, want, wantOK)
		}
	}
	turns := func(want ...uint32) {
		t.Helper()
		if got := s.Turns(); !slices.Equal(got, want) {
			t.Errorf("Turns: %v, want %v", got, want)
		}
	}
	waits := func(x api.Ticket) {
		t.Helper()
		if err := s.Ticket(x); err != nil {
			t.Errorf("Ticket(%v): %v", x, err)
		}
	}
	if !s.Ready(1) || !s.Ready(3) || !s.Ready(5) || s.Ready(3) {
		t.Error("Ready")
	}
	waits(ticket(api.TicketPing, 0, 7))
	nexts(data, specimens.Bare(api.TypePing, api.FlagSYN, 0, 7), true)
	nexts(data, specimens.Data(0, 1, "x"), true)
	turns(3, 5, 1)
	nexts(data, specimens.Data(0, 3, "x"), true)
	turns(5, 1)
	if !s.Rest(5) || s.Rest(5) {
		t.Error("Rest")
	}
	nexts(nil, api.Frame{}, false)
	waits(ticket(api.TicketGrant, 1, 4))
	waits(ticket(api.TicketGrant, 1, 2))
	if got := s.Tickets(); s.Count(api.TicketGrant) != 1 || !slices.Equal(got, []api.Ticket{ticket(api.TicketGrant, 1, 6)}) {
		t.Errorf("Count %d, Tickets %v", s.Count(api.TicketGrant), got)
	}
	if n := s.Forget(1); n != 1 {
		t.Errorf("Forget: %d", n)
	}
	nexts(data, api.Frame{}, false)
}

func TestP13_1_NewHasNeitherTicketsNorTurns(t *testing.T) {
	b := made(t)
	for range 2 {
		b.stands(t, nil)
		b.next(t, has(always, always))
		b.next(t, nil)
		for _, id := range streams {
			if b.rest(t, id) || b.forget(t, id) != 0 || b.withdraw(t, api.TicketSYN, id) {
				t.Fatal("something was there")
			}
		}
		b.clear()
	}
	if !b.ready(t, 1) || b.ticket(t, ticket(api.TicketSYN, 1, 0)) != nil {
		t.Error("Ready or Ticket")
	}
	b.stands(t, []api.Ticket{ticket(api.TicketSYN, 1, 0)}, 1)
}

func TestP13_1_TicketAnswersWhatLanePutAnswers(t *testing.T) {
	for _, x := range everyTicket() {
		for _, first := range append(ofEachKind(), api.Ticket{}) {
			b := made(t, 3, 5)
			b.ticket(t, first)
			b.ticket(t, x)
			b.tells(t)
			b.ticket(t, x)
			b.tells(t)
		}
	}
}

func TestP13_1_TicketFailsByTheChaptersWords(t *testing.T) {
	b := filled(t, 3, 7)
	for _, c := range []struct {
		x    api.Ticket
		want error
	}{
		{ticket(0, 0, 0), api.ErrType},
		{ticket(8, 1, 0), api.ErrType},
		{ticket(-1, 1, 0), api.ErrType},
		{ticket(api.TicketSYN, 0, 0), api.ErrID},
		{ticket(api.TicketGrant, 0, 1), api.ErrID},
		{ticket(api.TicketPing, 1, 1), api.ErrID},
		{ticket(api.TicketAway, 1, 1), api.ErrID},
		{ticket(api.TicketRST, 1, 1), api.ErrLength},
		{ticket(api.TicketGrant, 1, 0), api.ErrLength},
		{ticket(api.TicketAway, 0, 3), api.ErrLength},
		{ticket(api.TicketSYN, 5, 0), api.ErrTwice},
		{ticket(api.TicketACK, 2, 0), api.ErrTwice},
		{ticket(api.TicketRST, 2, 0), api.ErrTwice},
		{ticket(api.TicketAway, 0, 1), api.ErrTwice},
		{ticket(api.TicketGrant, 3, 1<<32-10), api.ErrOverflow},
	} {
		if err := b.s.Ticket(c.x); !sentinels.Just(err, c.want) {
			t.Errorf("Ticket(%v): %v, want %v", c.x, err, c.want)
		}
		b.stands(t, ofEachKind(), 3, 7)
	}
}

// A grant grows where it stands; of pings and pongs any number waits.
func TestP13_1_ATicketWaitsBehindAllOthersButForAGrantThatGrows(t *testing.T) {
	b := made(t, 9)
	for _, x := range ofEachKind() {
		if b.ticket(t, x) != nil {
			t.Fatal("Ticket")
		}
	}
	for _, x := range []api.Ticket{ticket(api.TicketPing, 0, 7), ticket(api.TicketGrant, 3, 1<<32-11), ticket(api.TicketPong, 0, 9), ticket(api.TicketGrant, 5, 1)} {
		if b.ticket(t, x) != nil {
			t.Fatalf("Ticket(%v)", x)
		}
	}
	want := append(ofEachKind(), ticket(api.TicketPing, 0, 7), ticket(api.TicketPong, 0, 9), ticket(api.TicketGrant, 5, 1))
	want[2].Value = 1<<32 - 1
	b.stands(t, want, 9)
	b.drains(t)
}

func TestP13_1_WithdrawTakesTheFirstOfItsKindAndStream(t *testing.T) {
	for i, x := range ofEachKind() {
		b := made(t, 5, 2, 3, 0)
		for _, y := range append(ofEachKind(), ticket(api.TicketPing, 0, 8), ticket(api.TicketPong, 0, 8)) {
			b.ticket(t, y)
		}
		want := slices.Delete(b.s.Tickets(), i, i+1)
		if !b.withdraw(t, x.Kind, x.Stream) {
			t.Fatalf("Withdraw of %v", x)
		}
		b.stands(t, want, 5, 2, 3, 0) // no turn goes
		again := x.Kind == api.TicketPing || x.Kind == api.TicketPong
		if got := b.withdraw(t, x.Kind, x.Stream); got != again {
			t.Fatalf("Withdraw of %v again: %v", x, got)
		}
		b.tells(t)
		b.drains(t)
	}
}

func TestP13_1_WithdrawOfWhatIsNotThereChangesNothing(t *testing.T) {
	b := filled(t, 1, 2, 3)
	for _, kind := range kinds {
		for _, stream := range streams {
			there := slices.ContainsFunc(ofEachKind(), func(x api.Ticket) bool { return x.Kind == kind && x.Stream == stream })
			if !there && b.withdraw(t, kind, stream) {
				t.Fatalf("Withdraw(%d, %d)", kind, stream)
			}
		}
	}
	b.stands(t, ofEachKind(), 1, 2, 3)
}

func TestP13_1_ReadyGivesATurnBehindAllOthers(t *testing.T) {
	b := made(t)
	for i, id := range streams {
		if !b.ready(t, id) {
			t.Fatalf("Ready(%d)", id)
		}
		b.stands(t, nil, streams[:i+1]...)
	}
	for _, id := range streams {
		if b.ready(t, id) {
			t.Fatalf("Ready(%d) again", id)
		}
		b.stands(t, nil, streams...)
	}
	for _, id := range streams[:4] { // whoever had its turn and comes again stands behind all
		b.next(t, has(always, never))
		if !b.ready(t, id) {
			t.Fatalf("Ready(%d) behind its turn", id)
		}
	}
	b.stands(t, nil, append(slices.Clone(streams[4:]), streams[:4]...)...)
}

func TestP13_1_RestTakesTheTurnAndLeavesTheTickets(t *testing.T) {
	for _, gone := range streams {
		b := made(t, streams...)
		tickets := []api.Ticket{ticket(api.TicketPing, 0, 1)}
		if gone != 0 {
			tickets = []api.Ticket{ticket(api.TicketRST, gone, 0), ticket(api.TicketGrant, gone, 3)}
		}
		for _, x := range tickets {
			b.ticket(t, x)
		}
		if !b.rest(t, gone) || b.rest(t, gone) {
			t.Fatalf("Rest(%d)", gone)
		}
		b.stands(t, tickets, slices.DeleteFunc(slices.Clone(streams), func(id uint32) bool { return id == gone })...)
		if !b.ready(t, gone) {
			t.Fatalf("Ready(%d) behind Rest", gone)
		}
		b.drains(t)
	}
}

func TestP13_1_ForgetTakesAllTicketsAndTheTurn(t *testing.T) {
	for id, tickets := range map[uint32]int{0: 3, 2: 2, 3: 1, 5: 1, 7: 0, 8: 0, 1 << 31: 0} {
		b := filled(t, 7, 5, 3, 2, 0)
		if n := b.forget(t, id); n != tickets {
			t.Fatalf("Forget(%d): %d, want %d", id, n, tickets)
		}
		left := slices.DeleteFunc(ofEachKind(), func(x api.Ticket) bool { return x.Stream == id })
		turns := slices.DeleteFunc([]uint32{7, 5, 3, 2, 0}, func(x uint32) bool { return x == id })
		b.stands(t, left, turns...)
		if n := b.forget(t, id); n != 0 {
			t.Fatalf("Forget(%d) again: %d", id, n)
		}
		b.stands(t, left, turns...)
		if !b.ready(t, id) {
			t.Fatalf("Ready(%d) behind Forget", id)
		}
		b.drains(t)
	}
}

func TestP13_1_NextAnswersEachKindsFrame(t *testing.T) {
	b := filled(t, 3, 5)
	mustNot := func(uint32) (api.Frame, bool, bool) {
		t.Error("data was called while a ticket waited")
		return api.Frame{}, false, false
	}
	for i, want := range []api.Frame{
		specimens.Bare(api.TypeWindow, api.FlagSYN, 5, 0),
		specimens.Bare(api.TypeWindow, api.FlagACK, 2, 0),
		specimens.Bare(api.TypeWindow, 0, 3, 10),
		specimens.Bare(api.TypeWindow, api.FlagRST, 2, 0),
		specimens.Bare(api.TypePing, api.FlagSYN, 0, 7),
		specimens.Bare(api.TypePing, api.FlagACK, 0, 9),
		specimens.Bare(api.TypeAway, 0, 0, 2),
	} {
		data := dataFunc(mustNot)
		if i%2 == 1 {
			data = nil // it makes no difference while a ticket waits
		}
		if f, ok := b.s.Next(data); !sameFrame(f, want) || !ok {
			t.Errorf("Next: %v, %v, want %v", f, ok, want)
		}
		b.p.tickets.Next()
		b.stands(t, ofEachKind()[i+1:], 3, 5)
	}
}

func TestP13_1_TheFirstInTurnIsAsked(t *testing.T) {
	b := made(t, 4, 1, 9)
	for _, want := range []uint32{4, 1, 9, 4, 1} {
		if f, ok := b.next(t, has(always, always)); f.Head.Stream != want || !ok {
			t.Fatalf("Next: %v, %v, want one of %d", f, ok, want)
		}
		b.tells(t)
	}
	b.stands(t, nil, 9, 4, 1)
	b.next(t, has(always, never))
	b.stands(t, nil, 4, 1)
	b.next(t, has(always, always))
	b.stands(t, nil, 1, 4)
	b.next(t, has(always, never))
	b.next(t, has(always, never))
	b.stands(t, nil)
	if f, ok := b.next(t, has(always, always)); f.Data != nil || ok {
		t.Errorf("Next of none: %v, %v", f, ok)
	}
}

// Up to five streams, each of which has no frame, a last one, or more: every way.
func TestP13_1_WhoHasNoFrameLosesItsTurnAndTheNextIsAsked(t *testing.T) {
	for n := range 6 {
		ways := 1
		for range n {
			ways *= 4
		}
		for way := range ways {
			var ids []uint32
			for id := range n {
				ids = append(ids, uint32(2*id+1))
			}
			b := made(t, ids...)
			bits := func(id uint32) int { return way >> (id - 1) & 3 } // two for each stream
			data := has(func(id uint32) bool { return bits(id)&1 > 0 }, func(id uint32) bool { return bits(id)&2 > 0 })
			for range n + 2 {
				b.next(t, data)
				b.tells(t)
			}
		}
	}
}

func TestP13_1_MoreMeansNothingWhereThereIsNoFrame(t *testing.T) {
	b := made(t, 1, 2, 3)
	f, ok := b.next(t, has(never, always))
	if f.Head != (api.Header{}) || f.Data != nil || ok {
		t.Errorf("Next: %v, %v, want the zero frame", f, ok)
	}
	b.stands(t, nil)
}

func TestP13_1_NilDataChangesNothing(t *testing.T) {
	b := made(t, 6, 2, 4)
	for range 3 {
		if f, ok := b.next(t, nil); f.Head != (api.Header{}) || f.Data != nil || ok {
			t.Errorf("Next(nil): %v, %v", f, ok)
		}
		b.stands(t, nil, 6, 2, 4)
	}
	b.ticket(t, ticket(api.TicketPong, 0, 8))
	if f, ok := b.next(t, nil); !ok || f.Head.Length != 8 {
		t.Errorf("Next(nil) while a ticket waits: %v, %v", f, ok)
	}
	b.stands(t, nil, 6, 2, 4)
	b.drains(t)
}

// Whatever data answers is answered, also what no end would lay out, or what tells another stream than the one that was asked for.
func TestP13_1_TheFrameIsAnsweredAsItIs(t *testing.T) {
	wide := make([]byte, 3, 100)
	for _, want := range []api.Frame{
		{},
		specimens.Data(0, 1, ""),
		specimens.Data(api.FlagFIN, 1, "ab"),
		{Head: api.Header{Version: 7, Type: 99, Flags: 1<<16 - 1, Stream: 1<<32 - 1, Length: 1<<32 - 1}},
		{Head: api.Header{Stream: 2, Length: 5}, Data: wide},
		specimens.Bare(api.TypePing, api.FlagSYN, 0, 3),
	} {
		for _, more := range []bool{true, false} {
			s := sched.New()
			s.Ready(1)
			s.Ready(2)
			f, ok := s.Next(func(uint32) (api.Frame, bool, bool) { return want, true, more })
			if !ok || f.Head != want.Head || !slices.Equal(f.Data, want.Data) || (f.Data == nil) != (want.Data == nil) || cap(f.Data) != cap(want.Data) {
				t.Errorf("Next: %v, %v, want %v", f, ok, want)
			}
			turns := []uint32{2, 1} // of the stream that was asked for, whatever the frame says
			if !more {
				turns = turns[:1]
			}
			if got := s.Turns(); !slices.Equal(got, turns) {
				t.Errorf("Turns: %v, want %v", got, turns)
			}
		}
	}
}

func TestP13_1_CountOfEachKind(t *testing.T) {
	b := made(t, 1)
	want := map[api.TicketKind]int{}
	for i, x := range append(ofEachKind(), ticket(api.TicketPing, 0, 7), ticket(api.TicketGrant, 3, 1), ticket(api.TicketGrant, 4, 1), ticket(api.TicketSYN, 6, 0)) {
		b.ticket(t, x)
		if i != 8 { // the grant of 3 grows
			want[x.Kind]++
		}
		for _, kind := range kinds {
			if got := b.s.Count(kind); got != want[kind] {
				t.Fatalf("Count(%d): %d, want %d", kind, got, want[kind])
			}
		}
	}
}

func TestP13_1_ClearTakesAllOut(t *testing.T) {
	b := filled(t, 1, 0, 5)
	for range 2 {
		b.clear()
		b.stands(t, nil)
		b.next(t, has(always, always))
	}
	for _, x := range ofEachKind() { // none of them is there twice now
		if b.ticket(t, x) != nil {
			t.Fatalf("Ticket(%v) behind Clear", x)
		}
	}
	if !b.ready(t, 5) || !b.ready(t, 1) {
		t.Fatal("Ready behind Clear")
	}
	b.stands(t, ofEachKind(), 5, 1)
	b.clear()
	b.ready(t, 7)
	b.clear()
	b.ticket(t, ticket(api.TicketPing, 0, 1))
	b.clear()
	b.stands(t, nil)
}

// Tickets, Turns and Count change nothing, however often they are called.
func TestP13_1_AskingChangesNothing(t *testing.T) {
	b := filled(t, 3, 1, 2)
	for range 10 {
		b.stands(t, ofEachKind(), 3, 1, 2)
	}
	b.drains(t)
}

// P13.2, F5: whatever the streams have, a ticket that comes goes ahead of it.
func TestP13_2_NoDataWhileATicketWaits(t *testing.T) {
	b := made(t, 1, 3, 5)
	data := has(always, always)
	for round := range uint32(20) {
		for _, x := range ofEachKind() {
			b.ticket(t, x)
		}
		for _, x := range ofEachKind() {
			want, _ := lane.Frame(x)
			if f, _ := b.next(t, data); !sameFrame(f, want) {
				t.Fatalf("Next: %v, want %v", f, want)
			}
		}
		b.stands(t, nil, b.p.turns...)
		for i := range round % 4 { // the turns go on where they stood
			if f, _ := b.next(t, data); f.Head.Type != api.TypeData {
				t.Fatalf("Next number %d: %v, want Data", i, f)
			}
		}
	}
}

// A grant that was added to one comes with it, at its place.
func TestP13_2_AGrantThatWasAddedComesWithTheFirst(t *testing.T) {
	b := made(t, 1)
	for _, x := range []api.Ticket{ticket(api.TicketGrant, 3, 1), ticket(api.TicketSYN, 5, 0), ticket(api.TicketGrant, 3, 2), ticket(api.TicketGrant, 7, 4), ticket(api.TicketGrant, 3, 8)} {
		b.ticket(t, x)
	}
	for _, want := range []api.Frame{
		specimens.Bare(api.TypeWindow, 0, 3, 11),
		specimens.Bare(api.TypeWindow, api.FlagSYN, 5, 0),
		specimens.Bare(api.TypeWindow, 0, 7, 4),
		frameOf(1),
	} {
		if f, ok := b.next(t, has(always, always)); !sameFrame(f, want) || !ok {
			t.Fatalf("Next: %v, want %v", f, want)
		}
		b.tells(t)
	}
	b.ticket(t, ticket(api.TicketGrant, 3, 16)) // the one that waited has gone: a new one
	b.stands(t, []api.Ticket{ticket(api.TicketGrant, 3, 16)}, 1)
}
