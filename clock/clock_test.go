package clock_test

import (
	"math"
	"slices"
	"testing"

	"culvert/api"
	"culvert/clock"
	"culvert/pool"
	"culvert/sentinels"
	"culvert/specimens"
)

// none is what Due and Late must tell of nothing.
const none = -1

// cut: what a Tick must answer of a connection.
func cut(conn, life int) api.Mishap { return api.Mishap{Conn: conn, Life: life} }

// edges are numbers around which an int changes, or one of fewer bits would, or a time may not be any more.
var edges = []int{
	math.MinInt, math.MinInt + 1, -1 << 40, -1<<32 - 1, -1 << 32, -1 << 31, -2, -1, 0, 1, 2,
	1<<31 - 1, 1 << 31, 1<<32 - 1, 1 << 32, 1<<32 + 1, 1<<40 - 1, 1 << 40, 1<<40 + 1, 1 << 41, 1 << 62, math.MaxInt - 1, math.MaxInt,
}

// The chapter's examples, in their order.
func TestP29_1_Examples(t *testing.T) {
	b := connected(t, 2, small(), 2, 3)
	b.due(t, 0, 2)
	b.late(t, 0, none)
	b.ticks(t, 1)
	b.due(t, 0, 2)
	b.all(t, carries(0))
	b.ticks(t, 1)
	b.due(t, 1, 4)
	b.late(t, 1, 2)
	b.all(t, carries(0))
	b.ticks(t, 2)
	b.late(t, 0, 4)
	b.late(t, 1, 2)
	b.due(t, 1, 6)
	b.all(t, carries(0))
	b.ticks(t, 1, cut(1, 1))
	b.due(t, 1, none)
	b.all(t, carries(0))
	b.ticks(t, 1)
	b.all(t, carries(0), connects(1))
	b.ticks(t, 1)
	b.due(t, 1, 9)
	for _, n := range []int{0, 1 << 40} {
		if _, err := b.tick(t, n); err != api.ErrRange {
			t.Errorf("Tick(%d): %v", n, err)
		}
	}
	b.tells(t)
}

func TestP29_1_New(t *testing.T) {
	p := newPool(t, 2, small())
	for _, every := range edges {
		for _, patience := range edges {
			k, err := clock.New(p, every, patience)
			may := every >= 1 && every <= 1<<40 && patience >= 1 && patience <= 1<<40
			if (k != nil) != may || may && err != nil || !may && !sentinels.Just(err, api.ErrRange) {
				t.Errorf("New(%d, %d): %v, %v", every, patience, k, err)
			}
			if k, err := clock.New(nil, every, patience); k != nil || !sentinels.Just(err, api.ErrNil) {
				t.Errorf("New(nil, %d, %d): %v, %v, want ErrNil", every, patience, k, err)
			}
		}
	}
}

// Which places have a record from the beginning on: those of which a connection lives, in whichever life.
func TestP29_1_NewKeepsThoseThatLive(t *testing.T) {
	b := made(t, 6, small(), 7, 9,
		connects(1), connects(2), cuts(2), connects(3), cuts(3), connects(3), connects(4), near(4, api.DoAway), carries(4),
		connects(5), injects(5, asks(1)), brings(far, 5))
	for c, want := range []int{none, 7, none, 7, 7, none} {
		b.due(t, c, want)
		b.late(t, c, none)
	}
	for range 3 {
		b.ticks(t, 7)
		b.all(t, carries(1), carries(3), carries(4))
	}
	b.due(t, 4, 28) // a connection that is draining lives
}

func TestR7_ANilKeeperIsAnEmptyOne(t *testing.T) {
	var k *clock.Keeper
	for range 2 {
		for _, n := range edges {
			if got, err := k.Tick(n); len(got) != 0 || !sentinels.Just(err, api.ErrNil) {
				t.Errorf("Tick(%d): %v, %v, want ErrNil", n, got, err)
			}
			told(t, "Due", k.Due, n, none)
			told(t, "Late", k.Late, n, none)
			if now := k.Now(); now != 0 {
				t.Errorf("Now: %d", now)
			}
		}
	}
}

// At each time of these, each leap: refused below 1 and behind the greatest time, and then nothing has changed.
func TestP29_1_TickHasItsRange(t *testing.T) {
	for _, now := range []int{0, 1, 1 << 31, 1 << 32, 1<<40 - 2, 1<<40 - 1, 1 << 40} {
		leaps := append([]int{1<<40 - now - 1, 1<<40 - now, 1<<40 - now + 1, math.MaxInt - now, math.MaxInt - now + 1}, edges...)
		for _, n := range leaps {
			b := connected(t, 2, small(), 1<<40, 1<<40)
			if now > 0 {
				b.ticks(t, now)
			}
			_, err := b.tick(t, n)
			if may := n >= 1 && n <= 1<<40-now; may != (err == nil) {
				t.Errorf("Tick(%d) at %d: %v", n, now, err)
			}
			b.tells(t)
		}
	}
}

// R4: a Tick that is refused asks nothing, tells nothing and cuts nothing, whatever would be to be done.
func TestR4_ATickThatFailsChangesNothing(t *testing.T) {
	b := connected(t, 3, small(), 1, 2)
	b.ticks(t, 1)
	b.all(t, carries(0), cuts(2))
	for range 3 {
		for _, n := range []int{0, -1, math.MinInt, 1 << 40, math.MaxInt} {
			before := seen(b.p, 0) + seen(b.p, 1)
			if got, err := b.tick(t, n); len(got) != 0 || err != api.ErrRange {
				t.Fatalf("Tick(%d): %v, %v", n, got, err)
			}
			if after := seen(b.p, 0) + seen(b.p, 1); after != before {
				t.Fatalf("Tick(%d) has changed %s to %s", n, before, after)
			}
			b.tells(t)
			b.late(t, 0, 1)
			b.due(t, 2, 2) // its record stands as the last Tick has left it
		}
	}
	b.ticks(t, 2, cut(1, 1))
	b.late(t, 0, 3)
	b.due(t, 2, none)
}

// The greatest numbers: a due time may be behind the greatest time, and is then never reached.
func TestP29_1_TheGreatestTimes(t *testing.T) {
	b := connected(t, 1, pings(3), 1<<40, 1<<40)
	b.ticks(t, 1<<40-1)
	b.due(t, 0, 1<<40)
	b.late(t, 0, none)
	b.ticks(t, 1)
	b.due(t, 0, 1<<41)
	b.late(t, 0, 1<<40)
	for _, n := range edges {
		if _, err := b.tick(t, n); err != api.ErrRange {
			t.Errorf("Tick(%d) at the greatest time: %v", n, err)
		}
	}
	b.tells(t)

	b = connected(t, 1, pings(3), 1, 1<<40-1)
	b.ticks(t, 1)
	b.ticks(t, 1<<40-2)
	b.late(t, 0, 1)
	b.ticks(t, 1, cut(0, 1)) // it waits since 1

	b = connected(t, 1, pings(3), 1, 1<<40)
	for _, n := range []int{1, 1<<40 - 2, 1} {
		b.ticks(t, n)
		b.late(t, 0, 1) // it can't have waited so long
	}
}

// Numbers that are no place have no record, whatever stands beside them.
func TestP29_1_DueAndLateOfNoPlace(t *testing.T) {
	b := connected(t, 64, pings(2), 1, 5)
	for range 3 {
		b.ticks(t, 1)
		for _, conn := range append([]int{-64, -63, 64, 65, 127, 128, 1<<32 + 63}, edges...) {
			if conn >= 0 && conn < 64 {
				continue
			}
			told(t, "Due", b.k.Due, conn, none)
			told(t, "Late", b.k.Late, conn, none)
		}
	}
}

// A connection is pinged at the first Tick at which it is due, not ahead of it, and once only, however far the Tick has leapt.
func TestP29_1_WhenAConnectionIsPinged(t *testing.T) {
	for every := 1; every < 7; every++ {
		for first := 1; first < 15; first++ {
			for second := 1; second < 9; second++ {
				b := connected(t, 1, pings(9), every, 99)
				asked, due, now := 0, every, 0
				for _, n := range []int{first, second, second, 1} {
					now += n
					b.ticks(t, n)
					if now >= due {
						asked, due = asked+1, now+every
					}
					b.due(t, 0, due)
					if got := len(b.p.Link(0).End(0).Pinged()); got != asked {
						t.Fatalf("every %d, at %d: %d pings, want %d", every, now, got, asked)
					}
				}
			}
		}
	}
}

// A connection that answers nothing is cut at the first Tick at which its ping has waited patience ticks, whatever leaps lead there.
func TestP29_3_WhenAConnectionIsCut(t *testing.T) {
	for patience := 1; patience < 7; patience++ {
		for first := 1; first < 9; first++ {
			for second := 1; second < 9; second++ {
				b := connected(t, 2, pings(1), 2, patience)
				b.ticks(t, 2)
				for waited := 0; ; {
					n := first
					if waited > 0 {
						n = second
					}
					waited += n
					b.all(t, carries(1))
					if waited >= patience {
						b.ticks(t, n, cut(0, 1))
						break
					}
					b.ticks(t, n)
					b.late(t, 0, 2)
				}
				b.due(t, 0, none)
				b.late(t, 0, none)
				if v, _ := b.p.Conn(0); v.Live {
					t.Fatal("the connection that was cut lives")
				}
			}
		}
	}
}

// At the Tick at which it is cut a connection has no more pings; at that at which it is pinged it isn't cut by that ping.
func TestP29_3_ACutTakesThePlaceOfAPing(t *testing.T) {
	b := connected(t, 1, pings(9), 1, 1)
	b.ticks(t, 1)
	b.late(t, 0, 1)
	b.ticks(t, 1, cut(0, 1))
	b.ticks(t, 1)
	b.all(t, connects(0))
	b.ticks(t, 1)
	b.due(t, 0, 5)
	b.late(t, 0, none)
	b.ticks(t, 9)
	b.late(t, 0, 13)
	b.ticks(t, 9, cut(0, 2))
}

// The first of the pings that wait is the one that counts: who answers it alone has time till the second one's patience has run out.
func TestP29_1_TheEldestPingThatWaits(t *testing.T) {
	one := []move{near(0, api.DoStep), near(0, api.DoSend), near(0, api.DoPass), brings(far, 0)}
	b := connected(t, 1, pings(5), 1, 4)
	for n := 1; n <= 3; n++ {
		b.ticks(t, 1)
		b.late(t, 0, 1)
	}
	b.all(t, one...)
	b.late(t, 0, 1) // as the last Tick has left it
	b.ticks(t, 1)
	b.late(t, 0, 2)
	b.all(t, one...)
	b.all(t, one...)
	b.ticks(t, 1)
	b.late(t, 0, 4)
	b.ticks(t, 2)
	b.late(t, 0, 4)
	b.ticks(t, 1, cut(0, 1))
}

// Answers that come in another order than the pings were asked in; the far end is asked by nobody, so that it answers as it likes.
func TestP29_1_AnswersInAnyOrder(t *testing.T) {
	for _, order := range [][]uint32{{1, 2, 3, 4}, {4, 3, 2, 1}, {2, 4, 1, 3}, {3, 1, 4, 2}, {2, 3, 1, 4}, {4, 1, 3, 2}} {
		b := connected(t, 1, pings(4), 1, 99)
		for range 4 {
			b.ticks(t, 1)
			b.all(t, near(0, api.DoStep), near(0, api.DoSend)) // and no pass
		}
		waits := []uint32{1, 2, 3, 4}
		for _, token := range order {
			b.all(t, injects(0, asks(token)), brings(far, 0))
			b.ticks(t, 1)
			waits = slices.DeleteFunc(waits, func(one uint32) bool { return one == token })
			if len(waits) > 0 {
				b.late(t, 0, int(waits[0])) // it was asked at the time of its number
			}
		}
	}
	for _, order := range [][]uint32{{4, 3, 2, 1}, {2, 4, 1, 3}, {3, 2, 4}, {4, 2}, {3, 1}, {2, 3}} { // and all at one time
		b := connected(t, 1, pings(4), 1, 7)
		for range 4 {
			b.ticks(t, 1)
			b.all(t, near(0, api.DoStep), near(0, api.DoSend))
		}
		for _, token := range order {
			b.all(t, injects(0, asks(token)), brings(far, 0))
		}
		b.ticks(t, 1)
		for range 3 {
			b.tick(t, 2)
			b.tells(t)
		}
	}
}

// Where a ping fails, since as many wait as may, none waits by it, and the connection is due anew all the same.
func TestP29_1_APingThatFails(t *testing.T) {
	b := made(t, 1, pings(2), 3, 5, connects(0), near(0, api.DoPing), near(0, api.DoPing)) // the user's own
	for now := 3; now <= 30; now += 3 {
		b.ticks(t, 3)
		b.due(t, 0, now+3)
		b.late(t, 0, none)
	}
	b.all(t, carries(0))
	b.ticks(t, 2)
	b.due(t, 0, 33)
	b.ticks(t, 1) // theirs were told by the Tick ahead, so that nothing of the keeper's is answered
	b.late(t, 0, 33)
	b.all(t, near(0, api.DoPing))
	b.ticks(t, 4)
	b.due(t, 0, 40)
	b.late(t, 0, 33)
	b.ticks(t, 1, cut(0, 1))
}

// Tokens that the keeper hasn't asked for are passed over, beside its own.
func TestP29_1_TokensOfOthersArePassedOver(t *testing.T) {
	b := made(t, 1, pings(9), 2, 3, connects(0), near(0, api.DoPing), carries(0), near(0, api.DoPing))
	b.ticks(t, 2)
	b.all(t, near(0, api.DoPing), near(0, api.DoPing))
	b.late(t, 0, 2)
	b.all(t, brings(near, 0), brings(far, 0)) // the first that waits isn't the keeper's
	b.ticks(t, 1)
	b.late(t, 0, 2)
	b.all(t, carries(0))
	b.ticks(t, 1)
	b.late(t, 0, 4)
	b.all(t, near(0, api.DoPing), carries(0), near(0, api.DoPing))
	b.ticks(t, 1)
	b.late(t, 0, none)
}

// Answers that somebody else asks for never come to the keeper, which cuts the connection by its words.
func TestP29_1_AnswersThatOthersTake(t *testing.T) {
	b := connected(t, 2, pings(4), 2, 3)
	b.ticks(t, 2)
	b.all(t, carries(0), carries(1), near(0, api.DoPongs))
	b.ticks(t, 1)
	b.late(t, 0, 2)
	b.late(t, 1, none)
	b.ticks(t, 1)
	b.all(t, carries(0), carries(1))
	b.ticks(t, 1, cut(0, 1))
	b.late(t, 1, none)
}

// What Pongs would tell is the keeper's from the Tick on at which it has a record already; the Tick, or the New, in which the record begins tells nothing of it.
func TestP29_4_ARecordBeginsWithoutATouch(t *testing.T) {
	answered := []move{connects(0), near(0, api.DoPing), carries(0)}
	for _, n := range []int{1, 2, 9} {
		b := made(t, 1, small(), 1, 1, answered...)
		b.tellsPongs(t, 1)
		b = made(t, 1, small(), 1, 1)
		b.all(t, answered...)
		b.ticks(t, n)
		b.due(t, 0, n+1)
		b.tellsPongs(t, 1)
		b = made(t, 1, small(), 99, 1, answered...)
		b.ticks(t, n)
		b.tellsPongs(t)
	}
	for _, life := range []int{1, 2, 3} { // another life than the record's
		b := connected(t, 1, small(), 1, 1)
		for range life {
			b.all(t, cuts(0))
			b.all(t, answered...)
		}
		b.ticks(t, 5)
		b.due(t, 0, 6)
		b.late(t, 0, none)
		b.tellsPongs(t, 1)
	}
}

// tellsPongs: what the connection at 0 must tell of its answers.
func (b *both) tellsPongs(t *testing.T, want ...uint32) {
	t.Helper()
	if r, err := b.p.Near(0, api.LinkOp{Kind: api.DoPongs}); !slices.Equal(r.IDs, want) || err != nil {
		t.Fatalf("Pongs: %v, %v, want %v", r.IDs, err, want)
	}
	b.twin.Near(0, api.LinkOp{Kind: api.DoPongs})
}

// endings are ways in which the connection at 0 lives no more without the keeper.
var endings = [][]move{
	{cuts(0)},
	{injects(0, asks(7777)), brings(far, 0)}, // its far end answers what nobody has asked: a violation
	{injects(0, specimens.Data(0, 99, "x")), brings(far, 0)},           // a violation at the far end, which tells it
	{injects(0, specimens.Bare(api.TypeAway, 0, 0, 2)), cuts(0)},       // the far end is over, and the near one by the cut
	{near(0, api.DoAway), carries(0), far(0, api.DoAway), cuts(0)},     // draining, then cut
	{injects(0, asks(7777)), brings(far, 0), brings(near, 0), cuts(0)}, // over, which a cut refuses
}

// A connection that lives no more by itself is no mishap: its record goes, and nothing else.
func TestP29_1_WhatLivesNoMoreIsNoMishap(t *testing.T) {
	for i, ending := range endings {
		for _, waited := range []int{0, 1, 2, 3} {
			for _, n := range []int{1, 5, 99} {
				b := connected(t, 2, pings(2), 2, 4)
				for range waited {
					b.ticks(t, 1)
				}
				b.all(t, ending...)
				b.due(t, 0, 2+waited/2*2) // as the last Tick has left it
				before := seen(b.p, 0)
				got, _ := b.tick(t, n)
				if slices.ContainsFunc(got, func(m api.Mishap) bool { return m.Conn == 0 }) || seen(b.p, 0) != before {
					t.Fatalf("ending %d: %v, and %s, before %s", i, got, seen(b.p, 0), before)
				}
				b.due(t, 0, none)
				b.late(t, 0, none)
				b.tells(t)
			}
		}
	}
}

// A connection that took the place of another between two Ticks has a record of its own, in which nothing waits, though its pings have the same tokens.
func TestP29_1_AnotherLifeBetweenTwoTicks(t *testing.T) {
	for i, ending := range endings {
		for _, n := range []int{1, 4, 99} {
			b := connected(t, 1, pings(3), 2, 4)
			b.ticks(t, 2)
			b.ticks(t, 1)
			b.late(t, 0, 2)
			b.all(t, ending...)
			b.all(t, connects(0), near(0, api.DoPing))
			b.late(t, 0, 2)
			b.ticks(t, n)
			if got, _ := b.p.Conn(0); got.Life != 2 || !got.Live {
				t.Fatalf("ending %d: %+v", i, got)
			}
			b.due(t, 0, n+5)
			b.late(t, 0, none)
			b.ticks(t, 2)
			b.late(t, 0, n+5)
			b.all(t, carries(0))
			b.ticks(t, 1)
			b.late(t, 0, none)
			b.ticks(t, 1)
			b.ticks(t, 4, cut(0, 2))
		}
	}
}

// A drained connection may be connected anew while it lives: there was no Tick at which none lived.
func TestP29_1_AnotherLifeOfADrainedConnection(t *testing.T) {
	b := connected(t, 1, pings(3), 1, 3)
	b.ticks(t, 1)
	b.ticks(t, 1)
	b.all(t, near(0, api.DoAway), connects(0))
	b.ticks(t, 1)
	b.due(t, 0, 4)
	b.late(t, 0, none)
	b.ticks(t, 1)
	b.late(t, 0, 4)
	b.all(t, far(0, api.DoAway), brings(far, 0), connects(0))
	b.ticks(t, 9)
	b.due(t, 0, 14)
	b.ticks(t, 1)
	b.ticks(t, 3, cut(0, 3))
}

// A place whose record went begins anew with the next connection, whichever Tick that is.
func TestP29_1_APlaceThatStoodEmpty(t *testing.T) {
	b := made(t, 2, small(), 2, 2)
	for life := 1; life < 5; life++ {
		for range life {
			b.ticks(t, life)
			b.due(t, 1, none)
		}
		b.all(t, connects(1))
		b.due(t, 1, none)
		b.ticks(t, 3)
		b.due(t, 1, b.k.Now()+2)
		b.ticks(t, 2)
		b.late(t, 1, b.k.Now())
		b.ticks(t, 1)
		b.ticks(t, 1, cut(1, life))
	}
}

// The mishaps are told by place, with the life of each, though the places were pinged in another order, and some have answered or live no more.
func TestP29_1_MishapsInTheOrderOfPlaces(t *testing.T) {
	const conns = 64
	b := made(t, conns, small(), 50, 60)
	for i := range conns {
		c := (conns - i + 50) % conns
		for range c % 5 {
			b.all(t, connects(c), cuts(c))
		}
		b.all(t, connects(c))
		if i%4 == 3 {
			b.ticks(t, 1)
		}
	}
	for now := 17; now <= 66; now++ {
		b.ticks(t, 1)
	}
	b.late(t, 50, 51)
	b.late(t, 51, 66)
	var want []api.Mishap
	for c := range conns {
		switch c % 6 {
		case 1:
			b.all(t, carries(c))
		case 3:
			b.all(t, cuts(c))
		default:
			want = append(want, cut(c, 1+c%5))
		}
	}
	b.ticks(t, 60, want...)
}

// P7, P29.4: a connection that the keeper cuts fails its own streams, behind what had come for them; those of the others go on.
func TestP29_4_ACutFailsItsOwnStreamsAlone(t *testing.T) {
	cfg := pings(2)
	b := connected(t, 2, cfg, 1, 2)
	b.all(t, opens(), opens(), rounds(2), far(0, api.DoAccept), far(1, api.DoAccept))
	for conn := range 2 {
		b.all(t, func(p *pool.Pool) string {
			p.Far(conn, api.LinkOp{Kind: api.DoWrite, ID: 1, Data: []byte("hi")})
			return ""
		})
	}
	b.all(t, rounds(3))
	b.ticks(t, 1)
	b.all(t, carries(1))
	b.ticks(t, 2, cut(0, 1))
	for handle, want := range map[int]error{1: api.ErrCut, 2: nil} {
		if got, err := b.p.Read(handle, 9); string(got) != "hi" || err != nil {
			t.Errorf("Read(%d): %q, %v", handle, got, err)
		}
		if _, err := b.p.Read(handle, 9); !sentinels.Just(err, want) {
			t.Errorf("Read(%d): %v, want %v", handle, err, want)
		}
		if _, err := b.p.Write(handle, []byte("x")); !sentinels.Just(err, want) {
			t.Errorf("Write(%d): %v, want %v", handle, err, want)
		}
	}
}

// Two keepers of one pool: each by the words alone, with what the other leaves it.
func TestP29_1_TwoKeepersOfOnePool(t *testing.T) {
	b := connected(t, 1, pings(2), 2, 3)
	other, words := newKeeper(t, b.p, 3, 2), newPlain(b.twin, 1, 3, 2)
	second := &both{b.p, b.twin, other, words}
	for n := range 40 {
		b.tick(t, 1+n%2)
		if n%3 > 0 {
			b.all(t, carries(0))
		}
		second.tick(t, 1+n%3)
		b.tells(t)
		second.tells(t)
		b.all(t, connects(0))
	}
}
