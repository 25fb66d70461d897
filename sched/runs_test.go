package sched_test

import (
	"runtime"
	"slices"
	"sync"
	"testing"
	"weak"

	"culvert/api"
	"culvert/draws"
	"culvert/sched"
	"culvert/sentinels"
)

// shortCalls: each call of the short runs.
func shortCalls(t *testing.T) []func(b *both) {
	odd := func(id uint32) bool { return id%2 == 1 }
	calls := []func(b *both){
		func(b *both) { b.ticket(t, ticket(api.TicketSYN, 1, 0)) },
		func(b *both) { b.ticket(t, ticket(api.TicketGrant, 2, 1<<31)) },
		func(b *both) { b.ticket(t, ticket(api.TicketPing, 0, 4)) },
		func(b *both) { b.withdraw(t, api.TicketPing, 0) },
		func(b *both) { b.withdraw(t, api.TicketSYN, 1) },
		func(b *both) { b.next(t, has(always, always)) },
		func(b *both) { b.next(t, has(always, never)) },
		func(b *both) { b.next(t, has(odd, always)) },
		func(b *both) { b.next(t, nil) },
		func(b *both) { b.clear() },
	}
	for id := range uint32(3) {
		calls = append(calls,
			func(b *both) { b.ready(t, id) },
			func(b *both) { b.rest(t, id) },
			func(b *both) { b.forget(t, id) })
	}
	return calls
}

func TestP13_1_EveryOrderOfFourCalls(t *testing.T) {
	calls := shortCalls(t)
	for n := range len(calls) * len(calls) * len(calls) * len(calls) {
		b := made(t)
		for range 4 {
			calls[n%len(calls)](b)
			n /= len(calls)
		}
		b.tells(t)
		b.drains(t)
	}
}

// Each two calls where there are tickets and turns already, in each order of the turns.
func TestP13_1_EveryTwoCallsWhereMuchWaits(t *testing.T) {
	calls := shortCalls(t)
	for _, turns := range [][]uint32{{0, 1, 2}, {0, 2, 1}, {1, 0, 2}, {1, 2, 0}, {2, 0, 1}, {2, 1, 0}} {
		for n := range len(calls) * len(calls) {
			b := made(t, turns...)
			for _, x := range []api.Ticket{ticket(api.TicketACK, 2, 0), ticket(api.TicketSYN, 1, 0), ticket(api.TicketGrant, 2, 5), ticket(api.TicketAway, 0, 1)} {
				b.ticket(t, x)
			}
			calls[n%len(calls)](b)
			b.tells(t)
			calls[n/len(calls)](b)
			b.tells(t)
			b.drains(t)
		}
	}
}

// drawnTicket: mostly one that may be.
func drawnTicket(row *draws.Draws) api.Ticket {
	x := ticket(api.TicketKind(row.Below(7)+1), uint32(row.Below(9)), uint32(row.Below(4)))
	switch {
	case row.Below(12) == 0:
		x.Value = values[row.Below(len(values))]
	case x.Kind == api.TicketPing || x.Kind == api.TicketPong || x.Kind == api.TicketAway:
		x.Stream, x.Value = 0, x.Value%3
	case x.Kind != api.TicketGrant:
		x.Value = 0
	}
	return x
}

// drawnData: some streams have no frame, some a last one, most have more.
func drawnData(row *draws.Draws) dataFunc {
	none, last := uint32(2+row.Below(8)), uint32(2+row.Below(8))
	return has(func(id uint32) bool { return id%none != 1 }, func(id uint32) bool { return id%last != 0 })
}

// turn: one drawn call; the more tickets there are, the longer the streams wait.
func (b *both) turn(t *testing.T, row *draws.Draws, tickets int) {
	t.Helper()
	switch n := row.Below(64); {
	case n < tickets:
		b.ticket(t, drawnTicket(row))
	case n < 24:
		b.ready(t, uint32(row.Below(9)))
	case n < 26:
		b.next(t, nil)
	case n < 56:
		b.next(t, drawnData(row))
	case n < 58:
		b.rest(t, uint32(row.Below(9)))
	case n < 61:
		x := drawnTicket(row)
		b.withdraw(t, x.Kind, x.Stream)
	case n < 63:
		b.forget(t, uint32(row.Below(9)))
	case row.Below(4) == 0:
		b.clear()
	}
}

// R9: two at once, neither of which hears of the other.
func TestP13_1_LongRunsOfTwoScheds(t *testing.T) {
	for seed := range draws.Draws(30) {
		tickets := 4 + seed.Below(16)
		scheds := [2]*both{made(t), made(t)}
		for range 1500 {
			b := scheds[seed.Below(2)]
			b.turn(t, &seed, tickets)
			b.tells(t)
		}
		scheds[0].drains(t)
		scheds[1].drains(t)
	}
}

// Each ping bears the number of its coming, each grant's first delta too, so that the answers alone tell the order.
func TestP13_2_TicketsComeOutInTheOrderOfTheirComing(t *testing.T) {
	for seed := range draws.Draws(40) {
		s := sched.New()
		for id := range uint32(5) {
			s.Ready(id + 1)
		}
		waiting := 0
		var came, last uint32
		for range 600 {
			switch n := seed.Below(8); {
			case n < 3:
				came++
				x := ticket(api.TicketPing, 0, came)
				if n == 0 {
					x = ticket(api.TicketGrant, 100+came, came)
				}
				if err := s.Ticket(x); err != nil {
					t.Fatal(err)
				}
				waiting++
			default:
				f, ok := s.Next(has(always, always))
				switch {
				case !ok || (f.Head.Type == api.TypeData) != (waiting == 0):
					t.Fatalf("Next: %v, %v while %d tickets wait", f, ok, waiting)
				case waiting > 0 && f.Head.Length != last+1:
					t.Fatalf("Next: %v behind number %d", f, last)
				case waiting > 0:
					last++
					waiting--
				}
			}
		}
	}
}

// P13.3, F5: each n Data frames that follow one another bear n streams, whatever tickets come between.
func TestP13_3_EachStreamHasItsTurn(t *testing.T) {
	for n := 1; n < 40; n++ {
		seed := draws.Draws(n)
		s := sched.New()
		for id := range n {
			s.Ready(uint32(2*id + 1))
		}
		var got []uint32
		for len(got) < 4*n {
			if seed.Below(3) == 0 {
				s.Ticket(drawnTicket(&seed))
			}
			s.Ready(uint32(2*seed.Below(n) + 1)) // whoever has a turn gains nothing by asking again
			if f, ok := s.Next(has(always, always)); ok && f.Head.Type == api.TypeData {
				got = append(got, f.Head.Stream)
			}
		}
		for from := range len(got) - n + 1 {
			some := slices.Clone(got[from : from+n])
			slices.Sort(some)
			if len(slices.Compact(some)) != n {
				t.Fatalf("of %d streams: %v", n, got)
			}
		}
	}
}

// Streams come and go at every step; who stays is not passed over.
func TestP13_3_WhoStaysIsNotPassedOver(t *testing.T) {
	s := sched.New()
	for id := range uint32(3) {
		s.Ready(id)
	}
	other := uint32(10)
	for round := range 50 {
		for want := range uint32(3) {
			if f, ok := s.Next(has(always, always)); f.Head.Stream != want || !ok {
				t.Fatalf("round %d: %v, %v, want one of %d", round, f, ok, want)
			}
			for range 4 { // they come behind all, and have gone ahead of their turn
				s.Ready(other)
				s.Ready(other + 1)
				s.Rest(other)
				s.Forget(other + 1)
				other += 2
			}
		}
	}
}

// spoil writes over all of a list, its spare room too.
func spoil[T any](list []T, with T) {
	list = list[:cap(list)]
	for i := range list {
		list[i] = with
	}
}

func TestP13_4_TicketsAndTurnsAnswerNewMemory(t *testing.T) {
	b := made(t)
	for round := range uint32(20) {
		for _, x := range ofEachKind() {
			b.ticket(t, x)
		}
		b.ready(t, round)
		spoil(b.s.Tickets(), ticket(99, 99, 99))
		spoil(b.s.Turns(), 99)
		b.tells(t)
		oneTickets, twoTickets := b.s.Tickets(), b.s.Tickets()
		oneTurns, twoTurns := b.s.Turns(), b.s.Turns()
		spoil(oneTickets, ticket(99, 99, 99))
		spoil(oneTurns, 99)
		if !slices.Equal(twoTickets, b.p.tickets.List()) || !slices.Equal(twoTurns, b.p.turns) {
			t.Fatalf("%v, %v behind writing over others", twoTickets, twoTurns)
		}
		b.next(t, has(always, always))
		spoil(twoTickets, ticket(99, 99, 99))
		spoil(twoTurns, 99)
		b.tells(t)
	}
	b.drains(t)
}

// What was answered stays as it was, whatever becomes of the Sched.
func TestP13_4_ListsThatWereAnsweredStay(t *testing.T) {
	b := filled(t, 1, 2, 3, 4)
	tickets, turns := b.s.Tickets(), b.s.Turns()
	b.ticket(t, ticket(api.TicketGrant, 3, 5))
	b.drains(t)
	for id := range uint32(30) {
		b.ready(t, 100+id)
		b.ticket(t, ticket(api.TicketPong, 0, id))
	}
	b.rest(t, 101)
	b.clear()
	if !slices.Equal(tickets, ofEachKind()) || !slices.Equal(turns, []uint32{1, 2, 3, 4}) {
		t.Errorf("they have become %v, %v", tickets, turns)
	}
}

func TestR4_ATicketThatFailsChangesNothing(t *testing.T) {
	b := filled(t, 4, 2)
	failed := 0
	for _, x := range everyTicket() {
		if beside := filled(t); beside.p.tickets.Put(x) == nil { // it would be taken
			continue
		}
		failed++
		if b.ticket(t, x) == nil {
			t.Fatalf("Ticket(%v) was taken", x)
		}
		b.stands(t, ofEachKind(), 4, 2)
	}
	if failed == 0 {
		t.Fatal("none failed")
	}
	b.drains(t)
}

func TestR7_ANilSchedHasNeitherTicketsNorTurns(t *testing.T) {
	var s *sched.Sched
	for range 2 {
		for _, x := range append(everyTicket(), api.Ticket{}) {
			if err := s.Ticket(x); !sentinels.Just(err, api.ErrNil) {
				t.Fatalf("Ticket(%v): %v", x, err)
			}
			if s.Withdraw(x.Kind, x.Stream) || s.Forget(x.Stream) != 0 || s.Count(x.Kind) != 0 {
				t.Fatalf("Withdraw, Forget or Count of %v", x)
			}
			if s.Ready(x.Stream) || s.Rest(x.Stream) {
				t.Fatalf("Ready or Rest of %d", x.Stream)
			}
		}
		data, asked := heard(has(always, always))
		for _, d := range []dataFunc{data, nil} {
			if f, ok := s.Next(d); f.Head != (api.Header{}) || f.Data != nil || ok || len(*asked) > 0 {
				t.Errorf("Next: %v, %v, asked for %v", f, ok, *asked)
			}
		}
		s.Clear()
		if len(s.Tickets()) != 0 || len(s.Turns()) != 0 {
			t.Error("Tickets or Turns")
		}
	}
}

// stopped: what Next's panic bore; nil if it had none.
func stopped(s *sched.Sched, data dataFunc) (bore any) {
	defer func() { bore = recover() }()
	s.Next(data)
	return nil
}

// A panic of data goes on as it is. Which turns are left isn't promised, but that the Sched is still one: no turn is there twice, none came from nowhere, and all calls answer.
func TestP13_1_APanicOfDataGoesOn(t *testing.T) {
	for at := range uint32(4) {
		s := sched.New()
		for id := range uint32(4) {
			s.Ready(id)
		}
		why := new(int)
		bore := stopped(s, func(id uint32) (api.Frame, bool, bool) {
			if id == at {
				panic(why)
			}
			return frameOf(id), false, false
		})
		if bore != any(why) {
			t.Fatalf("the panic bore %v", bore)
		}
		left := s.Turns()
		slices.Sort(left)
		if len(slices.Compact(slices.Clone(left))) != len(left) || len(left) > 0 && left[len(left)-1] > 3 {
			t.Fatalf("Turns: %v", left)
		}
		s.Clear()
		b := &both{s, made(t).p}
		for _, id := range []uint32{3, 1, 0} {
			b.ready(t, id)
		}
		b.ticket(t, ticket(api.TicketSYN, 1, 0))
		b.drains(t)
	}
	s := sched.New()
	s.Ready(1)
	s.Ticket(ticket(api.TicketPing, 0, 1))
	if bore := stopped(s, func(uint32) (api.Frame, bool, bool) { panic("called") }); bore != nil {
		t.Errorf("data was called while a ticket waited: %v", bore)
	}
}

// P1: what a data that calls the Sched makes isn't promised, but that Next ends, doesn't panic, and asks for no stream of which nobody spoke.
func TestP1_ADataThatCallsTheSchedEndsNext(t *testing.T) {
	next := uint32(100)
	for _, calls := range []func(s *sched.Sched, id uint32){
		func(s *sched.Sched, id uint32) { next++; s.Ready(next) },
		func(s *sched.Sched, id uint32) { s.Ready(id); s.Ready(id + 1) },
		func(s *sched.Sched, id uint32) { s.Rest(id); s.Ready(id) },
		func(s *sched.Sched, id uint32) { s.Rest(id + 1); s.Rest(id + 2) },
		func(s *sched.Sched, id uint32) { s.Forget(id); s.Forget(id + 1) },
		func(s *sched.Sched, id uint32) { s.Clear() },
		func(s *sched.Sched, id uint32) { s.Ticket(ticket(api.TicketPing, 0, id)) },
		func(s *sched.Sched, id uint32) { s.Next(has(never, never)) },
		func(s *sched.Sched, id uint32) { s.Next(has(always, always)) },
		func(s *sched.Sched, id uint32) { s.Tickets(); s.Turns(); s.Count(1) },
	} {
		for answers := range 4 {
			s := sched.New()
			for id := range uint32(6) {
				s.Ready(id + 1)
			}
			for range 10 {
				s.Next(func(id uint32) (api.Frame, bool, bool) {
					if id == 0 {
						t.Error("data was asked for 0")
					}
					calls(s, id)
					return frameOf(id), answers&1 > 0, answers&2 > 0
				})
				s.Tickets()
				s.Turns()
			}
		}
	}
}

// R10: data is kept nowhere: what it alone has is let go when Next has answered.
func TestR10_DataIsKeptNowhere(t *testing.T) {
	s := sched.New()
	for id := range uint32(8) {
		s.Ready(id)
	}
	var left []weak.Pointer[[64]byte]
	for range 4 {
		left = append(left, asks(s))
	}
	s.Ticket(ticket(api.TicketPing, 0, 1))
	left = append(left, asks(s))
	runtime.GC()
	for i, k := range left {
		if k.Value() != nil {
			t.Errorf("the data of Next number %d is kept", i)
		}
	}
	runtime.KeepAlive(s)
}

// asks: a Next, and a weak pointer to what its data alone has.
func asks(s *sched.Sched) weak.Pointer[[64]byte] {
	own := new([64]byte)
	s.Next(func(id uint32) (api.Frame, bool, bool) {
		own[id%64]++
		return api.Frame{Data: own[:]}, id%3 > 0, id%2 > 0
	})
	return weak.Make(own)
}

// R10: data is called within Next alone, and at most once for each stream that had a turn.
func TestR10_DataIsAskedOnceForAStreamWithinNextAlone(t *testing.T) {
	b := made(t)
	for id := range uint32(50) {
		b.ready(t, id)
	}
	within := false
	count := map[uint32]int{}
	data := func(id uint32) (api.Frame, bool, bool) {
		if !within {
			t.Error("data was called behind Next")
		}
		count[id]++
		return frameOf(id), false, true
	}
	within = true
	b.s.Next(data)
	within = false
	b.p.turns = nil
	for id := range uint32(50) {
		if count[id] != 1 {
			t.Fatalf("data was asked for %d %d times", id, count[id])
		}
	}
	b.ready(t, 1)
	b.ticket(t, ticket(api.TicketSYN, 1, 0))
	b.tells(t)
	b.forget(t, 1)
	b.next(t, nil)
	b.clear()
}

// F9: whoever makes streams ready bounds them; the Sched does not. The whole must not take as long as if each call went through all.
func TestF9_ManyTicketsAndTurns(t *testing.T) {
	const many = 1 << 17 // far more than a session with the greatest Config has
	s := sched.New()
	for i := range uint32(many) {
		if !s.Ready(i) || s.Ready(i) || s.Ticket(ticket(api.TicketGrant, i+1, 1)) != nil || s.Ticket(ticket(api.TicketGrant, i+1, 1)) != nil {
			t.Fatalf("Ready or Ticket number %d", i)
		}
	}
	if s.Count(api.TicketGrant) != many || len(s.Tickets()) != many || len(s.Turns()) != many {
		t.Fatalf("Count %d, Tickets %d, Turns %d", s.Count(api.TicketGrant), len(s.Tickets()), len(s.Turns()))
	}
	for i := range uint32(many) {
		if f, ok := s.Next(nil); !ok || f.Head != (api.Header{Type: api.TypeWindow, Stream: i + 1, Length: 2}) {
			t.Fatalf("Next number %d: %v, %v", i, f, ok)
		}
	}
	for i := range uint32(many) {
		if f, ok := s.Next(has(always, always)); !ok || f.Head.Stream != i {
			t.Fatalf("Next number %d: %v, %v", i, f, ok)
		}
	}
	for i := uint32(1); i < many; i += 2 {
		if !s.Rest(i) {
			t.Fatalf("Rest(%d)", i)
		}
	}
	last := has(func(id uint32) bool { return id == many-2 }, never)
	if f, ok := s.Next(last); !ok || f.Head.Stream != many-2 || len(s.Turns()) != 0 {
		t.Fatalf("Next: %v, %v, then %d turns", f, ok, len(s.Turns()))
	}
}

func TestR9_SchedsAtTheSameTime(t *testing.T) {
	var all sync.WaitGroup
	told := make([][]uint32, 8)
	for i := range told {
		all.Go(func() {
			s, seed := sched.New(), draws.Draws(i%2)
			for range 500 {
				s.Ticket(drawnTicket(&seed))
				s.Ready(uint32(seed.Below(40)))
				f, _ := s.Next(drawnData(&seed))
				f2, _ := s.Next(drawnData(&seed))
				told[i] = append(told[i], f.Head.Stream, f2.Head.Stream, f2.Head.Length)
			}
			told[i] = append(told[i], s.Turns()...)
		})
	}
	all.Wait()
	for i, list := range told {
		if !slices.Equal(list, told[i%2]) {
			t.Errorf("number %d: %v, not %v", i, list, told[i%2])
		}
	}
}
