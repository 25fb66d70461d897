package pool_test

import (
	"math"
	"testing"

	"culvert/api"
	"culvert/pool"
	"culvert/sentinels"
	"culvert/specimens"
)

// small is the configuration of the chapter's examples.
func small() api.Config {
	return api.Config{Window: 4, Stage: 8, Frame: 3, Streams: 4, Backlog: 2, Pings: 1, Out: 64}
}

// changed: the small configuration with some of it otherwise.
func changed(how func(cfg *api.Config)) api.Config {
	cfg := small()
	how(&cfg)
	return cfg
}

// at: a place, in short.
func at(conn, life int, id uint32) api.Place { return api.Place{Conn: conn, Life: life, ID: id} }

// none is where a handle stands that is none.
var none api.Place

// The chapter's examples, in their order.
func TestP23_1_Examples(t *testing.T) {
	b := made(t, 2, 2, small())
	b.refuses(t, opens(), api.ErrNoConn)
	b.all(t, connects(0), connects(1))
	b.refuses(t, connects(0), api.ErrLive)
	b.refuses(t, connects(2), api.ErrRange)
	b.opens(t, 1, at(0, 1, 1))
	b.opens(t, 2, at(1, 1, 1))
	b.opens(t, 3, at(0, 1, 3))
	b.counts(t, writes(2, "ab"), 2)
	b.well(t, rounds(2))
	b.counts(t, farAccepts(1), 1)
	b.gives(t, farReads(1, 1, 9), "ab")
	b.all(t, far(1, bare(api.DoAway)), rounds(3))
	b.conn(t, 1, api.ConnView{Life: 1, Live: true, Draining: true, Open: 1, Left: 2147483647})
	b.refuses(t, opens(), api.ErrLimit)
	b.well(t, resets(1))
	b.refuses(t, resets(1), api.ErrHandle)
	b.opens(t, 4, at(0, 1, 5))
	b.well(t, cuts(0))
	b.refuses(t, cuts(0), api.ErrNoConn)
	b.refuses(t, opens(), api.ErrDraining)
	b.refuses(t, writes(3, "x"), api.ErrCut)
	b.well(t, connects(0))
	b.refuses(t, writes(3, "x"), api.ErrHandle)
	b.handle(t, 4, none)
	b.opens(t, 5, at(0, 2, 1))
	b.all(t, resets(2), connects(1))
	b.conn(t, 1, api.ConnView{Life: 2, Live: true, Left: 2147483648})
	refused(t, 0, 1, small(), api.ErrRange)
	refused(t, 2, 3, small(), api.ErrRange)
}

// The ninth of DOC.md's ten examples.
func TestP7_TheExampleOfTheWhole(t *testing.T) {
	b := connected(t, 2, 2, small())
	for i, conn := range []int{0, 1, 0, 1} {
		b.opens(t, i+1, at(conn, 1, uint32(1+2*(i/2))))
	}
	b.refuses(t, opens(), api.ErrLimit)
	b.all(t, far(0, bare(api.DoAway)), rounds(1))
	b.refuses(t, opens(), api.ErrLimit)
	b.well(t, resets(2))
	b.opens(t, 5, at(1, 1, 5))
	b.well(t, resets(1))
	b.refuses(t, opens(), api.ErrLimit) // 0 has room, but is draining
}

func refused(t *testing.T, conns, per int, cfg api.Config, want error) {
	t.Helper()
	if p, err := pool.New(conns, per, cfg); p != nil || !sentinels.Just(err, want) {
		t.Errorf("New(%d, %d, %+v): %v, %v, want %v", conns, per, cfg, p, err, want)
	}
}

func TestP23_1_NewRefusesWhatIsOutsideItsRange(t *testing.T) {
	far := []int{math.MinInt, -1, 0, 1 << 32, 1<<62 + 1, math.MaxInt}
	for _, conns := range append(far, 65) {
		refused(t, conns, 1, small(), api.ErrRange)
		refused(t, conns, 0, api.Config{}, api.ErrRange) // ahead of all else
	}
	for _, conns := range []int{1, 2, 63, 64} {
		b := made(t, conns, 1, small())
		b.tells(t)
		refused(t, conns, 1, api.Config{}, api.ErrConfig)
	}
	for _, per := range append(far, 3) {
		refused(t, 1, per, small(), api.ErrRange)
		refused(t, 1, per, changed(func(cfg *api.Config) { cfg.Out = 0 }), api.ErrConfig) // ahead of per
	}
	for _, c := range []struct{ streams, backlog, most int }{
		{1, 1, 0}, {2, 1, 1}, {3, 9, 1}, {4, 9, 2}, {5, 9, 2}, {9, 3, 3}, {4096, 1024, 1024}, {2047, 1024, 1023},
	} {
		cfg := changed(func(cfg *api.Config) { cfg.Streams, cfg.Backlog = c.streams, c.backlog })
		if c.most > 0 {
			made(t, 1, c.most, cfg).tells(t)
		}
		refused(t, 1, c.most+1, cfg, api.ErrRange)
	}
}

func TestP23_1_EachNumberOfAConfigurationHasItsRange(t *testing.T) {
	for _, f := range []struct {
		of          func(cfg *api.Config) *int
		least, most int
	}{
		{func(cfg *api.Config) *int { return &cfg.Window }, 1, api.MaxWindow},
		{func(cfg *api.Config) *int { return &cfg.Stage }, 1, api.MaxStage},
		{func(cfg *api.Config) *int { return &cfg.Frame }, 1, api.MaxFrame},
		{func(cfg *api.Config) *int { return &cfg.Streams }, 2, api.MaxStreams},
		{func(cfg *api.Config) *int { return &cfg.Backlog }, 1, api.MaxBacklog},
		{func(cfg *api.Config) *int { return &cfg.Pings }, 1, api.MaxPings},
		{func(cfg *api.Config) *int { return &cfg.Out }, 1, api.MaxOut},
		{func(cfg *api.Config) *int { return &cfg.Skip }, 0, api.MaxSkip},
	} {
		for _, n := range []int{f.least, f.most} { // the connections have this configuration, and no other
			b := connected(t, 2, 1, changed(func(cfg *api.Config) { *f.of(cfg) = n }))
			b.all(t, opens(), writes(1, "abcdefghi"), rounds(3), farAccepts(0), near(0, bare(api.DoPing)))
			b.all(t, farReads(0, b.w.given[0].ID, 9), rounds(3))
		}
		for _, n := range []int{math.MinInt, -1, f.most + 1, math.MaxInt} {
			refused(t, 2, 1, changed(func(cfg *api.Config) { *f.of(cfg) = n }), api.ErrConfig)
		}
	}
}

// Numbers that are no place are refused, whatever stands at their side; where there never was a connection nothing can be asked of one.
func TestP23_1_PlacesWithoutAConnection(t *testing.T) {
	b := made(t, 3, 1, small())
	b.well(t, connects(1))
	for _, k := range []int{math.MinInt, -1, 3, 64, 1 << 32, math.MaxInt} {
		b.refuses(t, connects(k), api.ErrRange)
		b.refuses(t, cuts(k), api.ErrRange)
		for _, kind := range []api.LinkKind{-1, 0, api.DoOpen, api.DoStep, api.DoCut, 15} {
			b.refuses(t, far(k, bare(kind)), api.ErrRange)
			b.refuses(t, near(k, bare(kind)), api.ErrRange)
		}
		if v, ok := b.p.Conn(k); ok || v != (api.ConnView{}) || b.p.Link(k) != nil {
			t.Errorf("place %d: %+v, %v, %v", k, v, ok, b.p.Link(k))
		}
	}
	for _, k := range []int{0, 2} {
		b.refuses(t, cuts(k), api.ErrNoConn)
		for _, kind := range []api.LinkKind{-1, 0, api.DoOpen, api.DoStep, api.DoCut, 15} {
			b.refuses(t, far(k, bare(kind)), api.ErrNoConn)
			b.refuses(t, near(k, bare(kind)), api.ErrNoConn)
		}
		b.conn(t, k, api.ConnView{})
	}
	b.opens(t, 1, at(1, 1, 1))
}

func TestP23_1_NumbersThatAreNoHandles(t *testing.T) {
	b := connected(t, 2, 2, small())
	b.all(t, opens(), opens(), resets(1))
	for _, h := range []int{math.MinInt, -2, -1, 0, 1, 3, 1 << 31, 1<<32 + 2, math.MaxInt} {
		b.refuses(t, writes(h, "ab"), api.ErrHandle)
		b.refuses(t, reads(h, 1), api.ErrHandle)
		b.refuses(t, reads(h, -1), api.ErrHandle) // ahead of what Read itself looks at
		b.refuses(t, closes(h), api.ErrHandle)
		b.refuses(t, resets(h), api.ErrHandle)
		b.handle(t, h, none)
	}
	b.refuses(t, reads(2, -1), api.ErrRange)
	b.handle(t, 2, at(1, 1, 1))
}

func TestP23_1_RoundsHaveTheirRange(t *testing.T) {
	b := made(t, 2, 2, small())
	b.all(t, rounds(0), rounds(api.MaxRounds), connects(0), opens(), writes(1, "abc"))
	for _, n := range []int{math.MinInt, -1, api.MaxRounds + 1, math.MaxInt} {
		b.refuses(t, rounds(n), api.ErrRange)
	}
	b.well(t, rounds(0))
	if got := b.p.Link(0).End(1).Waiting(); len(got) != 0 {
		t.Fatalf("of no rounds: %v waits", got)
	}
	b.well(t, rounds(1))
	if got := b.p.Link(0).End(1).Waiting(); len(got) != 1 {
		t.Fatalf("behind one round: %v waits", got)
	}
	b.all(t, rounds(api.MaxRounds), farAccepts(0))
	b.gives(t, farReads(0, 1, 9), "abc")
}

// Each kind at the far end; DoCut alone is refused there.
func TestP23_1_AllThatTheFarEndDoes(t *testing.T) {
	b := connected(t, 2, 2, small())
	b.all(t, opens(), opens(), writes(2, "abcd"), rounds(3))
	b.counts(t, farAccepts(1), 1)
	b.gives(t, farReads(1, 1, 3), "abc")
	b.counts(t, farWrites(1, 1, "0123456789"), 8)
	b.counts(t, far(1, bare(api.DoOpen)), 2)
	b.counts(t, far(1, bare(api.DoPing)), 1)
	b.counts(t, far(1, bare(api.DoStep)), 1) // the ACK
	b.counts(t, far(1, many(api.DoSend, 9)), 9)
	b.counts(t, far(1, many(api.DoPass, 100)), 9)
	b.well(t, rounds(6))
	if r := b.well(t, far(1, bare(api.DoPongs))); len(r.IDs) != 1 || r.IDs[0] != 1 {
		t.Fatalf("DoPongs: %+v", r)
	}
	b.gives(t, reads(2, 9), "0123")
	b.all(t, farCloses(1, 1), farResets(1, 2), far(1, bare(api.DoAway)))
	b.refuses(t, far(1, bare(api.DoCut)), api.ErrRange)
	b.refuses(t, far(1, bare(0)), api.ErrRange)
	b.refuses(t, far(1, bare(15)), api.ErrRange)
	b.refuses(t, farAccepts(1), api.ErrEmpty)
	b.refuses(t, farWrites(1, 1, "x"), api.ErrClosed)
	b.refuses(t, farReads(1, 7, 1), api.ErrNoStream)
	b.refuses(t, injects(1, specimens.Data(0, 9, "x")), &api.Violation{Stream: 9, Why: api.ErrUnknown})
	b.conn(t, 0, api.ConnView{Life: 1, Live: true, Open: 1, Left: 2147483647})
}

// Six kinds at the near end; no others are let through, not even to be told that they fail.
func TestP23_1_AllThatTheNearEndDoes(t *testing.T) {
	b := connected(t, 2, 2, small())
	b.all(t, opens(), opens(), rounds(1))
	for _, kind := range []api.LinkKind{
		math.MinInt, -1, 0, api.DoOpen, api.DoAccept, api.DoWrite, api.DoRead, api.DoClose, api.DoReset, api.DoCut, api.DoInject, 15, math.MaxInt,
	} {
		b.refuses(t, near(1, api.LinkOp{Kind: kind, ID: 1, N: 1, Data: []byte{1}}), api.ErrRange)
	}
	b.counts(t, near(1, bare(api.DoPing)), 1)
	b.refuses(t, near(1, bare(api.DoPing)), api.ErrLimit)
	b.counts(t, near(1, bare(api.DoStep)), 1)
	b.counts(t, near(1, bare(api.DoStep)), 0)
	b.counts(t, near(1, many(api.DoSend, 5)), 5)
	b.counts(t, near(1, many(api.DoSend, 50)), 7)
	b.counts(t, near(1, many(api.DoPass, 12)), 12)
	b.well(t, rounds(1))
	if r := b.well(t, near(1, bare(api.DoPongs))); len(r.IDs) != 1 || r.IDs[0] != 1 {
		t.Fatalf("DoPongs: %+v", r)
	}
	b.well(t, near(1, bare(api.DoAway)))
	b.conn(t, 1, api.ConnView{Life: 1, Live: true, Draining: true, Open: 1, Left: 2147483647})
	b.well(t, cuts(1))
	b.refuses(t, near(1, bare(api.DoPing)), api.ErrCut)
	b.refuses(t, near(1, many(api.DoSend, 1)), api.ErrCut)
	b.refuses(t, near(1, many(api.DoPass, 1)), api.ErrCut)
	b.refuses(t, near(1, bare(api.DoCut)), api.ErrRange)
	b.counts(t, near(1, bare(api.DoStep)), 0)
}

// A place is connected anew only where no connection lives, or a drained one.
func TestP23_1_ConnectAnew(t *testing.T) {
	b := connected(t, 2, 2, small())
	b.refuses(t, connects(0), api.ErrLive) // no streams, but not draining
	b.all(t, opens(), near(0, bare(api.DoAway)))
	b.refuses(t, connects(0), api.ErrLive) // draining, but it has a stream
	b.well(t, resets(1))
	elder := b.p.Link(0)
	b.well(t, connects(0)) // drained, by this end
	if b.p.Link(0) == elder {
		t.Error("the elder connection stands there still")
	}
	b.conn(t, 0, api.ConnView{Life: 2, Live: true, Left: 1 << 31})
	b.all(t, far(0, bare(api.DoAway)))
	b.refuses(t, connects(0), api.ErrLive) // it hasn't come yet
	b.all(t, rounds(1), connects(0))       // drained, by the far end
	b.conn(t, 0, api.ConnView{Life: 3, Live: true, Left: 1 << 31})
	b.opens(t, 2, at(0, 3, 1))
	b.all(t, cuts(0), connects(0)) // it lives no more, though it has a stream
	b.handle(t, 2, none)
	b.refuses(t, injects(0, specimens.Bare(api.TypeAway, 0, 0, 2)), api.ErrPeer) // the far session is over by it; the near one isn't
	b.refuses(t, connects(0), api.ErrLive)
	b.conn(t, 1, api.ConnView{Life: 1, Live: true, Left: 1 << 31})
}

func TestP23_1_ADeadConnectionIsSeenAllTheSame(t *testing.T) {
	b := connected(t, 1, 2, small())
	b.all(t, opens(), opens(), near(0, bare(api.DoAway)), cuts(0))
	b.conn(t, 0, api.ConnView{Life: 1, Draining: true, Open: 2, Left: 1<<31 - 2})
	b.refuses(t, opens(), api.ErrNoConn)
	b.well(t, rounds(5)) // of none
	b.well(t, connects(0))
	b.conn(t, 0, api.ConnView{Life: 2, Live: true, Left: 1 << 31})
}

// told: the far end has written this, with its end behind it, to the stream 1 of place 0, and all has come.
func told(p string) []api.PoolOp {
	return []api.PoolOp{rounds(1), farAccepts(0), farWrites(0, 1, p), farCloses(0, 1), rounds(5)}
}

// A handle goes with its stream, by whichever call that leaves the table.
func TestP23_3_HandlesGoWithTheirStreams(t *testing.T) {
	first := at(0, 1, 1)
	begun := func(t *testing.T, ops ...api.PoolOp) *both {
		t.Helper()
		b := connected(t, 2, 2, small())
		b.all(t, opens(), opens())
		b.all(t, ops...)
		b.handle(t, 1, first)
		return b
	}
	gone := func(t *testing.T, b *both) {
		t.Helper()
		b.handle(t, 1, none)
		b.handle(t, 2, at(1, 1, 1))
		for _, op := range []api.PoolOp{writes(1, "x"), reads(1, 1), closes(1), resets(1)} {
			b.refuses(t, op, api.ErrHandle)
		}
		if v, _ := b.p.Conn(0); v.Open != 0 {
			t.Errorf("Conn: %+v", v)
		}
	}
	t.Run("Reset", func(t *testing.T) {
		b := begun(t)
		b.well(t, resets(1))
		gone(t, b)
	})
	t.Run("the Read that tells the end of a quiet stream", func(t *testing.T) {
		b := begun(t, told("ab")...)
		b.gives(t, reads(1, 9), "ab")
		b.all(t, closes(1), rounds(1))
		b.handle(t, 1, first)
		b.refuses(t, reads(1, 9), api.ErrEOF)
		gone(t, b)
	})
	t.Run("the step that lays out its last frame", func(t *testing.T) {
		b := begun(t, told("")...)
		b.refuses(t, reads(1, 9), api.ErrEOF)
		b.all(t, closes(1))
		b.handle(t, 1, first)
		b.counts(t, near(0, bare(api.DoStep)), 1)
		gone(t, b)
	})
	t.Run("the round that lays out its last frame", func(t *testing.T) {
		b := begun(t, told("")...)
		b.refuses(t, reads(1, 9), api.ErrEOF)
		b.all(t, closes(1))
		b.handle(t, 1, first)
		b.well(t, rounds(1))
		gone(t, b)
	})
	t.Run("the call that tells its reset", func(t *testing.T) {
		for _, op := range []api.PoolOp{writes(1, "x"), reads(1, 0), closes(1), resets(1)} {
			b := begun(t, rounds(1), farAccepts(0), farResets(0, 1), rounds(2))
			b.refuses(t, op, api.ErrReset)
			gone(t, b)
		}
	})
	t.Run("Connect", func(t *testing.T) {
		b := begun(t, cuts(0))
		b.well(t, connects(0))
		gone(t, b)
	})
}

// hostile: what makes the far end of place 0 send an ACK for a stream that the near end never opened.
func hostile() []api.PoolOp {
	return []api.PoolOp{injects(0, specimens.Bare(api.TypeWindow, api.FlagSYN, 99, 0)), farAccepts(0)}
}

// At a violation of the far end, and at its failure, all handles of the connection go at once, with the streams, by whichever call that comes.
func TestP23_3_AllHandlesGoWithTheirSession(t *testing.T) {
	over := func(t *testing.T, b *both) {
		t.Helper()
		for h, place := range map[int]api.Place{1: none, 2: at(1, 1, 1), 3: none, 4: at(1, 1, 3)} {
			b.handle(t, h, place)
		}
		b.conn(t, 0, api.ConnView{Life: 1, Left: 1<<31 - 2})
		b.refuses(t, writes(1, "x"), api.ErrHandle)
		b.refuses(t, cuts(0), api.ErrNoConn)
		b.refuses(t, opens(), api.ErrLimit)
		b.all(t, rounds(3), connects(0))
		b.opens(t, 5, at(0, 2, 1))
	}
	begun := func(t *testing.T, ops ...api.PoolOp) *both {
		t.Helper()
		b := connected(t, 2, 2, small())
		b.all(t, opens(), opens(), opens(), opens())
		b.all(t, ops...)
		return b
	}
	t.Run("a violation, by rounds", func(t *testing.T) {
		b := begun(t, hostile()...)
		b.well(t, rounds(1))
		fails(t, "Err", b.p.Link(0).End(0).Err(), &api.Violation{Stream: 99, Why: api.ErrUnknown})
		over(t, b)
	})
	t.Run("a violation, by the far end's bytes", func(t *testing.T) {
		b := begun(t, append(hostile(), far(0, bare(api.DoStep)), far(0, many(api.DoSend, 100)))...)
		b.counts(t, far(0, many(api.DoPass, 11)), 11)
		b.handle(t, 1, at(0, 1, 1))
		b.counts(t, far(0, many(api.DoPass, 1)), 1)
		over(t, b)
	})
	t.Run("the far end's failure, by rounds", func(t *testing.T) {
		b := begun(t)
		b.refuses(t, injects(0, specimens.Data(0, 98, "")), &api.Violation{Stream: 98, Why: api.ErrUnknown})
		b.handle(t, 3, at(0, 1, 3))
		b.well(t, rounds(1))
		fails(t, "Err", b.p.Link(0).End(0).Err(), api.ErrPeer)
		over(t, b)
	})
	t.Run("the far end's failure, by its bytes", func(t *testing.T) {
		b := begun(t)
		b.refuses(t, injects(0, specimens.Data(0, 98, "")), &api.Violation{Stream: 98, Why: api.ErrUnknown})
		b.all(t, far(0, bare(api.DoStep)), far(0, many(api.DoSend, 100)), far(0, many(api.DoPass, 100)))
		over(t, b)
	})
}

// All rounds are done of a connection that lived at their beginning: the near end's Away goes over by the second of them.
func TestP23_1_RoundsGoOnBehindAViolation(t *testing.T) {
	b := connected(t, 1, 2, small())
	b.all(t, hostile()...)
	b.well(t, rounds(3))
	fails(t, "Err", b.p.Link(0).End(1).Err(), api.ErrPeer)
}

func TestP23_2_OpenGoesWhereTheFewestAre(t *testing.T) {
	b := connected(t, 3, 2, small())
	for i, conn := range []int{0, 1, 2} {
		b.opens(t, i+1, at(conn, 1, 1))
	}
	b.well(t, resets(2))
	b.opens(t, 4, at(1, 1, 3)) // the fewest
	b.all(t, resets(4), resets(3))
	b.opens(t, 5, at(1, 1, 5)) // the first of those that have the fewest
	b.opens(t, 6, at(2, 1, 3))
	b.opens(t, 7, at(0, 1, 3))
	b.opens(t, 8, at(1, 1, 7))
	b.opens(t, 9, at(2, 1, 5))
	b.refuses(t, opens(), api.ErrLimit)
	b.well(t, cuts(1))
	b.refuses(t, opens(), api.ErrLimit) // a place that doesn't live has no room
	b.well(t, near(0, bare(api.DoAway)))
	b.well(t, resets(1))
	b.refuses(t, opens(), api.ErrLimit)
	b.well(t, near(2, bare(api.DoAway)))
	b.refuses(t, opens(), api.ErrDraining)
	b.all(t, cuts(0), cuts(2))
	b.refuses(t, opens(), api.ErrNoConn)
	b.well(t, connects(2))
	b.opens(t, 10, at(2, 2, 1))
}

// Streams that were reset by the far end, and haven't told it, are open still; those that the far end opens are none of the pool's.
func TestP23_2_WhichStreamsAreOpen(t *testing.T) {
	b := connected(t, 1, 2, small())
	b.all(t, opens(), opens(), rounds(2), farAccepts(0), farResets(0, 1), far(0, bare(api.DoOpen)), rounds(3))
	b.conn(t, 0, api.ConnView{Life: 1, Live: true, Open: 2, Left: 1<<31 - 2})
	if got := b.p.Link(0).End(0).Waiting(); len(got) != 1 {
		t.Fatalf("%v waits at the near end", got)
	}
	b.refuses(t, opens(), api.ErrLimit)
	b.refuses(t, closes(1), api.ErrReset)
	b.opens(t, 3, at(0, 1, 5))
	if _, err := b.p.Link(0).End(0).Accept(); err != nil { // no call of the pool does that
		t.Fatal(err)
	}
	b.p.Rounds(0)
	b.conn(t, 0, api.ConnView{Life: 1, Live: true, Open: 2, Left: 1<<31 - 3})
}

// A connection whose numbers are used up takes no more streams, and says so only if it isn't full as well.
func TestP23_2_NumbersRunOut(t *testing.T) {
	for _, left := range []int{1, 2, 3} {
		b := connected(t, 2, 2, changed(func(cfg *api.Config) { cfg.Skip = 1<<31 - left }))
		next := uint32(1<<32 + 1 - 2*left)
		b.conn(t, 0, api.ConnView{Life: 1, Live: true, Left: left})
		for i := range left {
			b.opens(t, 2*i+1, at(0, 1, next+uint32(2*i)))
			b.opens(t, 2*i+2, at(1, 1, next+uint32(2*i)))
			if i < left-1 {
				b.all(t, resets(2*i+1), resets(2*i+2))
			}
		}
		b.conn(t, 0, api.ConnView{Life: 1, Live: true, Open: 1})
		b.refuses(t, opens(), api.ErrExhausted)
		b.well(t, near(0, bare(api.DoAway)))
		b.refuses(t, opens(), api.ErrExhausted)
		b.all(t, cuts(0), connects(0))
		b.opens(t, 2*left+1, at(0, 2, next))
	}
}

func TestP23_2_NoNumbersAtFullConnections(t *testing.T) {
	b := connected(t, 2, 1, changed(func(cfg *api.Config) { cfg.Skip = 1<<31 - 1 }))
	b.opens(t, 1, at(0, 1, 1<<32-1))
	b.opens(t, 2, at(1, 1, 1<<32-1))
	b.refuses(t, opens(), api.ErrLimit)
	b.well(t, resets(2))
	b.refuses(t, opens(), api.ErrExhausted)
}

// The opening at the near end never fails: where 2 * per is Streams there is room for as many RST tickets as there may be.
func TestP23_2_RSTsThatWaitLeaveRoom(t *testing.T) {
	for per := 1; per <= 3; per++ {
		b := connected(t, 1, per, changed(func(cfg *api.Config) { cfg.Streams, cfg.Backlog, cfg.Out = 2*per, per, 1 }))
		handle := 0
		for range 5 {
			for range per {
				handle++
				b.opens(t, handle, at(0, 1, uint32(2*handle-1)))
			}
			b.refuses(t, opens(), api.ErrLimit)
			for i := range per { // the first time their SYNs go out; behind that they wait behind the RSTs
				b.all(t, near(0, bare(api.DoStep)), near(0, many(api.DoSend, 12)), resets(handle-i))
			}
		}
	}
}

// P23.5: behind what had come, and no other connection's.
func TestP23_5_ACutFailsTheStreamsOfItsConnectionAlone(t *testing.T) {
	b := connected(t, 2, 2, small())
	b.all(t, opens(), opens(), opens(), opens(), writes(1, "abc"), writes(2, "abc"), rounds(2))
	for k := range 2 {
		b.all(t, farAccepts(k), farAccepts(k), farWrites(k, 1, "xyz"), farWrites(k, 3, "uv"), farCloses(k, 3))
	}
	b.all(t, rounds(4))
	other := seen(b.p.Link(1))
	b.gives(t, reads(1, 1), "x")
	b.well(t, cuts(0))
	if got := seen(b.p.Link(1)); got != other {
		t.Fatalf("another connection has changed by it:\n%s, was\n%s", got, other)
	}
	b.refuses(t, writes(1, "d"), api.ErrCut)
	b.refuses(t, closes(1), api.ErrCut)
	b.refuses(t, resets(1), api.ErrCut)
	b.gives(t, reads(1, 0), "")
	b.gives(t, reads(1, 1), "y")
	b.gives(t, reads(1, 9), "z")
	for range 3 { // its end hadn't come: it stays a handle
		b.refuses(t, reads(1, 9), api.ErrCut)
		b.handle(t, 1, at(0, 1, 1))
	}
	b.gives(t, reads(3, 9), "uv")
	b.conn(t, 0, api.ConnView{Life: 1, Open: 2, Left: 1<<31 - 2})
	b.refuses(t, reads(3, 9), api.ErrEOF)
	b.refuses(t, reads(3, 9), api.ErrHandle)
	b.conn(t, 0, api.ConnView{Life: 1, Open: 1, Left: 1<<31 - 2})
	b.gives(t, reads(2, 9), "xyz")
	b.counts(t, writes(2, "d"), 1)
	b.well(t, rounds(2))
	b.gives(t, farReads(1, 1, 9), "abcd")
	b.gives(t, reads(4, 9), "uv")
	b.refuses(t, reads(4, 9), api.ErrEOF)
	b.handle(t, 4, at(1, 1, 3)) // not quiet: this end hasn't closed it
}

// The far end goes on with what had come to it, too.
func TestP23_5_TheFarEndOfACut(t *testing.T) {
	b := connected(t, 1, 2, small())
	b.all(t, opens(), writes(1, "abcdef"), rounds(2), farAccepts(0), cuts(0))
	b.gives(t, farReads(0, 1, 9), "abc")
	b.refuses(t, farReads(0, 1, 9), api.ErrCut)
	b.refuses(t, farWrites(0, 1, "x"), api.ErrCut)
	b.refuses(t, far(0, bare(api.DoOpen)), api.ErrCut)
	b.refuses(t, far(0, many(api.DoPass, 1)), api.ErrCut)
	b.refuses(t, injects(0, specimens.Data(0, 1, "x")), api.ErrCut)
	b.handle(t, 1, at(0, 1, 1))
}

// A stream that the far end has reset tells that, behind a cut too, and is gone then.
func TestP23_5_AResetAheadOfACut(t *testing.T) {
	b := connected(t, 1, 2, small())
	b.all(t, opens(), rounds(1), farAccepts(0), farResets(0, 1), rounds(2), cuts(0))
	b.handle(t, 1, at(0, 1, 1))
	b.refuses(t, reads(1, 9), api.ErrReset)
	b.refuses(t, reads(1, 9), api.ErrHandle)
}

// Numbers that were handles stay none in the next lives, though the streams there have the same ids.
func TestP23_3_NoNumberComesBack(t *testing.T) {
	b := connected(t, 2, 1, small())
	for life := 1; life <= 20; life++ {
		b.opens(t, 2*life-1, at(0, life, 1))
		b.opens(t, 2*life, at(1, life, 1))
		b.all(t, cuts(0), near(1, bare(api.DoAway)), resets(2*life), connects(1), connects(0))
		for h := range 2*life + 2 {
			b.handle(t, h, none)
		}
	}
}

// ten: each call that answers an error, with arguments that are wrong.
func ten() []api.PoolOp {
	return []api.PoolOp{
		connects(-1), cuts(99), opens(), writes(-1, "x"), reads(0, -1), closes(0), resets(-7),
		far(-1, bare(api.DoCut)), near(99, bare(0)), rounds(-1),
	}
}

func TestR7_ANilPool(t *testing.T) {
	var p *pool.Pool
	right := []api.PoolOp{
		connects(0), cuts(0), writes(1, "x"), reads(1, 1), closes(1), resets(1), far(0, bare(api.DoStep)), near(0, bare(api.DoStep)), rounds(0),
	}
	for _, op := range append(ten(), right...) {
		r, err := call(p, op)
		fails(t, op, err, api.ErrNil)
		same(t, op, r, api.LinkResult{})
	}
	for _, n := range []int{-1, 0, 1} {
		if v, ok := p.Conn(n); ok || v != (api.ConnView{}) {
			t.Errorf("Conn(%d): %+v, %v", n, v, ok)
		}
		if at, ok := p.Handle(n); ok || at != none {
			t.Errorf("Handle(%d): %v, %v", n, at, ok)
		}
		if p.Link(n) != nil {
			t.Errorf("Link(%d) isn't nil", n)
		}
	}
}
