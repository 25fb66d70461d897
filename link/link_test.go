package link_test

import (
	"math"
	"strings"
	"testing"

	"culvert/api"
	"culvert/link"
	"culvert/sentinels"
	"culvert/session"
	"culvert/specimens"
)

// small is the configuration of the chapter's examples.
func small() api.Config {
	return api.Config{Window: 4, Stage: 8, Frame: 3, Streams: 2, Backlog: 2, Pings: 1, Out: 64}
}

// changed: the small configuration with some of it otherwise.
func changed(how func(cfg *api.Config)) api.Config {
	cfg := small()
	how(&cfg)
	return cfg
}

// The operations, by what they do at an end.

func opens(e int) api.LinkOp { return api.LinkOp{Kind: api.DoOpen, End: e} }

func accepts(e int) api.LinkOp { return api.LinkOp{Kind: api.DoAccept, End: e} }

func writes(e int, id uint32, p string) api.LinkOp {
	return api.LinkOp{Kind: api.DoWrite, End: e, ID: id, Data: []byte(p)}
}

func reads(e int, id uint32, n int) api.LinkOp {
	return api.LinkOp{Kind: api.DoRead, End: e, ID: id, N: n}
}

func closes(e int, id uint32) api.LinkOp { return api.LinkOp{Kind: api.DoClose, End: e, ID: id} }

func resets(e int, id uint32) api.LinkOp { return api.LinkOp{Kind: api.DoReset, End: e, ID: id} }

func asks(e int) api.LinkOp { return api.LinkOp{Kind: api.DoPing, End: e} }

func pongs(e int) api.LinkOp { return api.LinkOp{Kind: api.DoPongs, End: e} }

func goesAway(e int) api.LinkOp { return api.LinkOp{Kind: api.DoAway, End: e} }

func steps(e int) api.LinkOp { return api.LinkOp{Kind: api.DoStep, End: e} }

func sends(e, n int) api.LinkOp { return api.LinkOp{Kind: api.DoSend, End: e, N: n} }

func passes(e, n int) api.LinkOp { return api.LinkOp{Kind: api.DoPass, End: e, N: n} }

func cuts() api.LinkOp { return api.LinkOp{Kind: api.DoCut} }

func injects(e int, frames ...api.Frame) api.LinkOp {
	return api.LinkOp{Kind: api.DoInject, End: e, Data: specimens.Bytes(frames...)}
}

// answers: an operation that must answer this number.
func (b *both) answers(t *testing.T, op api.LinkOp, n int) {
	t.Helper()
	r, err := b.do(t, op)
	if err != nil || int(r.ID)+r.N != n {
		t.Fatalf("%+v: %+v, %v, want %d", op, r, err, n)
	}
	b.tells(t)
}

// gives: a Read that must answer these bytes.
func (b *both) gives(t *testing.T, op api.LinkOp, want string) {
	t.Helper()
	r, err := b.do(t, op)
	if err != nil || string(r.Data) != want {
		t.Fatalf("%+v: %+v, %v, want %q", op, r, err, want)
	}
	b.tells(t)
}

// refuses: an operation that must fail with this.
func (b *both) refuses(t *testing.T, op api.LinkOp, want error) {
	t.Helper()
	_, err := b.do(t, op)
	fails(t, op, err, want)
	b.tells(t)
}

// rounds: so many Rounds, none of which fails.
func (b *both) rounds(t *testing.T, many int) {
	t.Helper()
	for range many {
		if err := b.round(t); err != nil {
			t.Fatalf("Round: %v", err)
		}
		b.tells(t)
	}
}

// underWay: how many bytes must be in the pipes.
func (b *both) underWay(t *testing.T, client, server int) {
	t.Helper()
	if c, s := b.l.UnderWay(0), b.l.UnderWay(1); c != client || s != server {
		t.Fatalf("UnderWay: %d, %d, want %d, %d", c, s, client, server)
	}
}

// The chapter's examples, in their order.
func TestP20_1_Examples(t *testing.T) {
	b := made(t, small())
	b.answers(t, opens(0), 1)
	b.answers(t, writes(0, 1, "abcde"), 5)
	if n := b.l.Work(); n != 561 {
		t.Fatalf("Work: %d", n)
	}
	b.rounds(t, 1)
	b.answers(t, accepts(1), 1)
	b.answers(t, steps(0), 1)
	b.answers(t, sends(0, 13), 13)
	b.underWay(t, 13, 0)
	b.answers(t, passes(0, 100), 13)
	b.gives(t, reads(1, 1, 9), "")
	b.answers(t, sends(0, 100), 2)
	b.answers(t, passes(0, 1), 1)
	b.answers(t, passes(0, 1), 1)
	b.gives(t, reads(1, 1, 9), "abc")
	b.answers(t, cuts(), 0)
	b.refuses(t, sends(0, 1), api.ErrCut)
	b.refuses(t, reads(1, 1, 9), api.ErrCut)
	fails(t, "Round", b.round(t), api.ErrCut)
	b.answers(t, cuts(), 0)
	b.refuses(t, steps(2), api.ErrRange)
	b.refuses(t, api.LinkOp{Kind: 15}, api.ErrRange)
}

// The first and the third of DOC.md's ten examples, over a link.
func TestP20_1_ExamplesOfTheWhole(t *testing.T) {
	b := made(t, changed(func(cfg *api.Config) { cfg.Streams = 4 }))
	b.answers(t, opens(0), 1)
	b.answers(t, opens(0), 3)
	b.answers(t, opens(1), 2)
	b.answers(t, opens(1), 4)
	b.answers(t, writes(0, 1, "abcdefghij"), 8)
	b.rounds(t, 4) // two SYNs, "abc", "d"
	b.answers(t, steps(0), 0)
	b.answers(t, accepts(1), 1)
	b.gives(t, reads(1, 1, 1), "a")
	b.gives(t, reads(1, 1, 2), "bc")
	b.rounds(t, 2) // the ACK, the grant
	if v, _ := b.l.End(0).View(1); v.Credit != 3 || !v.Accepted {
		t.Fatalf("View: %+v", v)
	}
}

func TestP20_1_EachNumberOfAConfigurationHasItsRange(t *testing.T) {
	for _, f := range []struct {
		of          func(cfg *api.Config) *int
		least, most int
	}{
		{func(cfg *api.Config) *int { return &cfg.Window }, 1, api.MaxWindow},
		{func(cfg *api.Config) *int { return &cfg.Stage }, 1, api.MaxStage},
		{func(cfg *api.Config) *int { return &cfg.Frame }, 1, api.MaxFrame},
		{func(cfg *api.Config) *int { return &cfg.Streams }, 1, api.MaxStreams},
		{func(cfg *api.Config) *int { return &cfg.Backlog }, 1, api.MaxBacklog},
		{func(cfg *api.Config) *int { return &cfg.Pings }, 1, api.MaxPings},
		{func(cfg *api.Config) *int { return &cfg.Out }, 1, api.MaxOut},
		{func(cfg *api.Config) *int { return &cfg.Skip }, 0, api.MaxSkip},
	} {
		for _, n := range []int{f.least, f.most} {
			b := made(t, changed(func(cfg *api.Config) { *f.of(cfg) = n }))
			b.tells(t)
			if work := b.l.Work(); work != 1 {
				t.Errorf("Work of a new link: %d", work)
			}
		}
		for _, n := range []int{math.MinInt, -1, f.least - 1, f.most + 1, 1<<32 + 1, math.MaxInt} {
			refused(t, changed(func(cfg *api.Config) { *f.of(cfg) = n }))
		}
	}
	refused(t, api.Config{})
}

func refused(t *testing.T, cfg api.Config) {
	t.Helper()
	if l, err := link.New(cfg); l != nil || !sentinels.Just(err, api.ErrConfig) {
		t.Errorf("New(%+v): %v, %v", cfg, l, err)
	}
}

// ops: each kind of operation, at an end.
func ops(e int) []api.LinkOp {
	return []api.LinkOp{
		opens(e), accepts(e), writes(e, 1, "a"), reads(e, 1, 1), closes(e, 1), resets(e, 1), asks(e),
		pongs(e), goesAway(e), steps(e), sends(e, 1), passes(e, 1), cuts(), injects(e),
	}
}

// Wrong numbers are refused, whatever stands at their side, and change nothing; of DoCut the end isn't looked at.
func TestP20_1_KindsAndEndsOutsideTheirRange(t *testing.T) {
	wrong := []int{math.MinInt, -1 << 32, -2, -1, 2, 3, 1 << 32, 1<<32 + 1, math.MaxInt}
	for _, cut := range []bool{false, true} {
		b := made(t, small())
		b.answers(t, opens(0), 1)
		b.answers(t, writes(0, 1, "abc"), 3)
		b.rounds(t, 2)
		b.answers(t, asks(1), 1)
		if cut {
			b.answers(t, cuts(), 0)
		}
		for _, e := range wrong {
			for _, op := range ops(e) {
				if op.Kind != api.DoCut {
					b.refuses(t, op, api.ErrRange)
				}
			}
			for _, kind := range []api.LinkKind{math.MinInt, -1, 0, 15, 16, 1<<32 + 1, math.MaxInt} {
				for _, end := range []int{0, 1, e} {
					b.refuses(t, api.LinkOp{Kind: kind, End: end, ID: 1, N: 1, Data: []byte("a")}, api.ErrRange)
				}
			}
			if b.l.End(e) != nil || b.l.UnderWay(e) != 0 {
				t.Errorf("End(%d): %v, UnderWay: %d", e, b.l.End(e), b.l.UnderWay(e))
			}
		}
	}
	for _, e := range wrong {
		b := made(t, small())
		b.answers(t, api.LinkOp{Kind: api.DoCut, End: e}, 0)
		b.refuses(t, sends(0, 1), api.ErrCut)
	}
}

func TestP20_1_EndIsTheSessionItself(t *testing.T) {
	b := made(t, small())
	if b.l.End(0) == nil || b.l.End(1) == nil || b.l.End(0) == b.l.End(1) {
		t.Fatal("both ends are one, or there is none")
	}
	client, server := b.l.End(0), b.l.End(1)
	if id, err := client.Open(); id != 1 || err != nil {
		t.Fatalf("the client's Open: %d, %v", id, err)
	}
	if id, err := server.Open(); id != 2 || err != nil {
		t.Fatalf("the server's Open: %d, %v", id, err)
	}
	for e, want := range []uint32{3, 4} { // what was done to the session the link knows of
		if r, err := b.l.Do(opens(e)); r.ID != want || err != nil {
			t.Fatalf("DoOpen at %d: %+v, %v", e, r, err)
		}
	}
	client.Cut() // one end's own cut isn't the link's
	if r, err := b.l.Do(sends(0, 9)); r.N != 0 || err != nil {
		t.Fatalf("DoSend: %+v, %v", r, err)
	}
	if err := b.l.Round(); err != nil {
		t.Fatalf("Round: %v", err)
	}
	if _, err := b.l.Do(opens(0)); !sentinels.Just(err, api.ErrCut) {
		t.Fatalf("DoOpen: %v", err)
	}
}

// established: stream 1 with both its ends in the table, all tickets laid out and come.
func established(t *testing.T, cfg api.Config) *both {
	t.Helper()
	b := made(t, cfg)
	b.answers(t, opens(0), 1)
	b.rounds(t, 1)
	b.answers(t, accepts(1), 1)
	b.rounds(t, 1)
	return b
}

// Each call of a stream, at either end, with what it may fail with.
func TestP20_1_CallsFailAsTheSessionsDo(t *testing.T) {
	for e := range 2 {
		b := established(t, small())
		for _, op := range []api.LinkOp{writes(e, 7, "a"), reads(e, 7, 1), reads(e, 7, -1), closes(e, 7), resets(e, 7), closes(e, 0)} {
			b.refuses(t, op, api.ErrNoStream)
		}
		b.refuses(t, accepts(e), api.ErrEmpty)
		b.refuses(t, reads(e, 1, -1), api.ErrRange)
		b.refuses(t, reads(e, 1, math.MinInt), api.ErrRange)
		b.gives(t, reads(e, 1, 0), "")
		b.answers(t, writes(e, 1, ""), 0)
		b.answers(t, writes(e, 1, "abcdefghij"), 8)
		b.answers(t, writes(e, 1, "ij"), 0)
		b.answers(t, closes(e, 1), 0)
		b.refuses(t, closes(e, 1), api.ErrClosed)
		b.refuses(t, writes(e, 1, "a"), api.ErrClosed)
		b.answers(t, asks(e), 1)
		b.refuses(t, asks(e), api.ErrLimit)
		b.answers(t, resets(1-e, 1), 0)
		b.refuses(t, resets(1-e, 1), api.ErrNoStream)
		b.rounds(t, 1)
		b.refuses(t, writes(e, 1, "a"), api.ErrReset)
		b.refuses(t, writes(e, 1, "a"), api.ErrNoStream)
	}
}

// Limits that an end meets: the streams and the backlog (F9), and the ids (F1).
func TestF9_LimitsOverALink(t *testing.T) {
	b := made(t, changed(func(cfg *api.Config) { cfg.Streams, cfg.Backlog = 2, 1 }))
	b.answers(t, opens(0), 1)
	b.refuses(t, opens(0), api.ErrLimit) // by the backlog
	b.rounds(t, 1)
	b.answers(t, accepts(1), 1)
	b.rounds(t, 1)
	b.answers(t, opens(0), 3)
	b.rounds(t, 1)
	b.answers(t, accepts(1), 3)
	b.rounds(t, 1)
	b.refuses(t, opens(0), api.ErrLimit) // by the streams

	b = made(t, changed(func(cfg *api.Config) { cfg.Skip = api.MaxSkip }))
	b.answers(t, opens(0), math.MaxUint32)
	b.refuses(t, opens(0), api.ErrExhausted)
	b.refuses(t, opens(1), api.ErrExhausted)
	b.answers(t, writes(0, math.MaxUint32, "ab"), 2)
	b.rounds(t, 2)
	b.answers(t, accepts(1), math.MaxUint32)
	b.gives(t, reads(1, math.MaxUint32, 9), "ab")
}

// laden: a link with 40 bytes that wait to be taken at each end: a SYN, and Data frames of "abc" and of "d".
func laden(t *testing.T) *both {
	t.Helper()
	b := made(t, changed(func(cfg *api.Config) { cfg.Window = 8 }))
	for e := range 2 {
		b.answers(t, opens(e), e+1)
		b.answers(t, writes(e, uint32(e+1), "abcd"), 4)
		for range 3 {
			b.answers(t, steps(e), 1)
		}
		b.answers(t, steps(e), 0)
	}
	return b
}

func TestP20_1_SendAndPassAtTheEdges(t *testing.T) {
	const all = 12 + 15 + 13
	for e := range 2 {
		for _, n := range []int{math.MinInt, -1, 0, 1, 2, 11, 12, 13, all - 1, all, all + 1, 1 << 32, math.MaxInt} {
			moved := max(0, min(n, all))
			b := laden(t)
			b.answers(t, passes(e, n), 0) // nothing is in the pipe
			b.answers(t, sends(e, n), moved)
			if got := b.l.End(e).Pending(); got != all-moved {
				t.Fatalf("Pending behind DoSend of %d: %d", n, got)
			}
			if b.l.UnderWay(e) != moved || b.l.UnderWay(1-e) != 0 {
				t.Fatalf("UnderWay behind DoSend of %d: %d, %d", n, b.l.UnderWay(e), b.l.UnderWay(1-e))
			}
			b.answers(t, sends(e, all), all-moved)
			b.answers(t, passes(1-e, n), 0)
			b.answers(t, passes(e, n), moved)
			b.answers(t, passes(e, all), all-moved)
			b.answers(t, accepts(1-e), e+1)
			b.gives(t, reads(1-e, uint32(e+1), 9), "abcd")
		}
	}
}

// In which pieces the bytes go over doesn't matter: each cutting of a frame's way in two, at both places.
func TestP20_1_AnyPieces(t *testing.T) {
	for first := range 41 {
		for second := range 41 {
			b := laden(t)
			b.do(t, sends(0, first))
			b.do(t, passes(0, second))
			b.do(t, sends(0, 40))
			b.do(t, passes(0, 40))
			b.answers(t, accepts(1), 1)
			b.gives(t, reads(1, 1, 9), "abcd")
			b.underWay(t, 0, 0)
		}
	}
}

func TestP20_1_StepTellsWhetherAFrameWasLaidOut(t *testing.T) {
	b := made(t, changed(func(cfg *api.Config) { cfg.Out = 12 }))
	for e := range 2 {
		b.answers(t, steps(e), 0)
		b.answers(t, opens(e), e+1)
		b.answers(t, asks(e), 1)
		b.answers(t, steps(e), 1)
		b.answers(t, steps(e), 0) // as many bytes wait as may be
		b.answers(t, sends(e, 1), 1)
		b.answers(t, steps(e), 1)
		b.answers(t, sends(e, 100), 23)
		b.answers(t, steps(e), 0)
	}
}

func TestP20_1_PongsAreToldOnce(t *testing.T) {
	b := made(t, changed(func(cfg *api.Config) { cfg.Pings = 3 }))
	for e := range 2 {
		for token := range 3 {
			b.answers(t, asks(e), token+1)
		}
	}
	b.rounds(t, 1) // both ask
	b.answers(t, pongs(0), 0)
	b.rounds(t, 3) // tickets keep their order: two more are asked ahead of the first answer
	for e := range 2 {
		if r, err := b.do(t, pongs(e)); err != nil || len(r.IDs) != 1 || r.IDs[0] != 1 {
			t.Fatalf("DoPongs: %+v, %v", r, err)
		}
		if r, err := b.do(t, pongs(e)); err != nil || len(r.IDs) != 0 {
			t.Fatalf("DoPongs again: %+v, %v", r, err)
		}
	}
	b.rounds(t, 2)
	if r, _ := b.do(t, pongs(1)); len(r.IDs) != 2 || r.IDs[0] != 2 || r.IDs[1] != 3 {
		t.Fatalf("DoPongs: %+v", r)
	}
}

// A Round is one frame of each end, and all that is on its way goes over; an answer to what comes in it goes in the next.
func TestP20_1_ARound(t *testing.T) {
	b := laden(t)
	b.answers(t, sends(0, 5), 5)
	b.answers(t, sends(1, 20), 20)
	b.answers(t, asks(0), 1)
	b.rounds(t, 1)
	b.underWay(t, 0, 0)
	for e := range 2 {
		if s := b.l.End(e); s.Pending() != 0 || len(s.Waiting()) != 1 {
			t.Fatalf("end %d: Pending %d, Waiting %v", e, s.Pending(), s.Waiting())
		}
	}
	if n := len(b.l.End(1).Tickets()); n != 1 || len(b.l.End(0).Pinged()) != 1 {
		t.Fatalf("%d tickets: the answer to a ping doesn't go in the same Round", n)
	}
	b.rounds(t, 1)
	if n := len(b.l.End(0).Pinged()); n != 0 {
		t.Fatalf("%d pings wait", n)
	}
	b.rounds(t, 3) // of a link at rest, but for the streams that wait
}

func TestP20_1_GoingAway(t *testing.T) {
	b := made(t, small())
	b.answers(t, opens(0), 1)
	b.answers(t, goesAway(1), 0)
	b.answers(t, goesAway(1), 0)
	b.rounds(t, 1)
	b.refuses(t, opens(0), api.ErrAway)
	b.answers(t, opens(1), 2)
	b.rounds(t, 1) // the RST, by which stream 1 is refused
	b.refuses(t, reads(0, 1, 1), api.ErrReset)
	b.rounds(t, 1)
	b.answers(t, accepts(0), 2)
	b.lawful(t)
}

// frames that break the protocol, with the violation's stream and why.
func breaches() []struct {
	frame  api.Frame
	stream uint32
	why    error
} {
	return []struct {
		frame  api.Frame
		stream uint32
		why    error
	}{
		{specimens.Data(0, 9, "a"), 9, api.ErrUnknown},
		{specimens.Bare(api.TypePing, api.FlagACK, 0, 5), 0, api.ErrPing},
		{specimens.Bare(7, 0, 0, 0), 0, api.ErrType},
		{specimens.Data(0, 1, "abcde"), 1, api.ErrLength},
		{specimens.Bare(api.TypeWindow, 0, 1, 1), 1, api.ErrCredit},
	}
}

// DoInject tells what the Feed answers; what a DoPass or a Round feeds isn't told, but moved all the same.
func TestP20_1_InjectedBytes(t *testing.T) {
	for _, c := range breaches() {
		for e := range 2 {
			b := established(t, small())
			b.answers(t, writes(1-e, 1, "xyz"), 3)
			b.answers(t, steps(1-e), 1)
			b.answers(t, sends(1-e, 100), 15)
			b.refuses(t, injects(e, c.frame), &api.Violation{Stream: c.stream, Why: c.why})
			b.refuses(t, injects(e), &api.Violation{Stream: c.stream, Why: c.why})
			b.answers(t, passes(1-e, 7), 7)
			b.answers(t, passes(1-e, 100), 8)
			b.refuses(t, reads(e, 1, 9), &api.Violation{Stream: c.stream, Why: c.why})
			if err := b.l.End(1 - e).Err(); err != nil {
				t.Fatalf("the other end: %v", err)
			}
			b.rounds(t, 1) // the Away goes over
			fails(t, "Err", b.l.End(1-e).Err(), api.ErrPeer)
			b.refuses(t, opens(1-e), api.ErrPeer)
			b.rounds(t, 1)
			b.answers(t, cuts(), 0)
			fails(t, "Err", b.l.End(1-e).Err(), api.ErrPeer)
		}
	}
	b := established(t, small())
	b.answers(t, injects(1, specimens.Data(0, 1, "hi")), 0)
	b.answers(t, injects(0, specimens.Bare(api.TypePing, api.FlagSYN, 0, 9)), 0)
	b.gives(t, reads(1, 1, 9), "hi")
}

// A frame that goes over and breaks the protocol at the other end: it was moved, and only Err tells.
func TestP20_1_WhatAPassFeedsIsNotTold(t *testing.T) {
	for e := range 2 {
		b := established(t, small())
		b.answers(t, injects(1-e, specimens.Data(0, 1, "abc"), specimens.Data(0, 1, "d")), 0) // the window is spent by bytes that were never sent
		b.answers(t, writes(e, 1, "xy"), 2)
		b.answers(t, steps(e), 1)
		b.answers(t, sends(e, 100), 14)
		b.answers(t, passes(e, 13), 13)
		b.answers(t, passes(e, 13), 1)
		fails(t, "Err", b.l.End(1-e).Err(), &api.Violation{Stream: 1, Why: api.ErrWindow})
		b.underWay(t, 0, 0)

		b = established(t, small())
		b.answers(t, injects(1-e, specimens.Data(0, 1, "abc"), specimens.Data(0, 1, "d")), 0)
		b.answers(t, writes(e, 1, "xy"), 2)
		b.rounds(t, 1)
		fails(t, "Err", b.l.End(1-e).Err(), &api.Violation{Stream: 1, Why: api.ErrWindow})
	}
}

// P20.6, F7 and the eighth of DOC.md's ten examples.
func TestP20_6_ACut(t *testing.T) {
	for e := range 2 {
		for _, last := range []bool{false, true} {
			b := established(t, small())
			b.answers(t, writes(e, 1, "hi"), 2)
			want := api.ErrCut
			if last {
				b.answers(t, closes(e, 1), 0)
				want = api.ErrEOF
			}
			b.rounds(t, 1)
			b.answers(t, writes(1-e, 1, "lost"), 4)
			b.answers(t, steps(1-e), 1)
			b.answers(t, sends(1-e, 20), 15)
			b.answers(t, passes(1-e, 14), 14)
			b.answers(t, steps(1-e), 1)
			b.answers(t, opens(0), 3)
			b.answers(t, asks(e), 1)
			b.answers(t, cuts(), 0)
			b.underWay(t, 0, 0)
			if b.l.End(e).Held() != 0 || b.l.End(1-e).Held() != 2 {
				t.Fatalf("Held: %d, %d", b.l.End(e).Held(), b.l.End(1-e).Held())
			}
			for x := range 2 {
				b.refuses(t, sends(x, 1), api.ErrCut)
				b.refuses(t, passes(x, 1), api.ErrCut)
				b.refuses(t, sends(x, 0), api.ErrCut)
				b.refuses(t, passes(x, -1), api.ErrCut)
				b.refuses(t, opens(x), api.ErrCut)
				b.refuses(t, asks(x), api.ErrCut)
				b.refuses(t, goesAway(x), api.ErrCut)
				b.refuses(t, injects(x, specimens.Data(0, 1, "a")), api.ErrCut)
				b.answers(t, steps(x), 0)
				b.answers(t, pongs(x), 0)
			}
			fails(t, "Round", b.round(t), api.ErrCut)
			b.answers(t, cuts(), 0)
			b.gives(t, reads(1-e, 1, 1), "h")
			b.gives(t, reads(1-e, 1, 9), "i")
			b.refuses(t, reads(1-e, 1, 9), want)
			b.refuses(t, reads(e, 1, 9), api.ErrCut)
			b.lawful(t)
		}
	}
}

// A link of which an end is over already: the cut lets go what waits to be taken there, and Err stays.
func TestP20_6_ACutBehindAViolation(t *testing.T) {
	b := established(t, small())
	b.refuses(t, injects(0, specimens.Data(0, 9, "")), &api.Violation{Stream: 9, Why: api.ErrUnknown})
	b.answers(t, steps(0), 1)
	b.answers(t, cuts(), 0)
	if n := b.l.End(0).Pending(); n != 0 {
		t.Errorf("Pending: %d", n)
	}
	fails(t, "Err", b.l.End(0).Err(), &api.Violation{Stream: 9, Why: api.ErrUnknown})
	fails(t, "Err", b.l.End(1).Err(), api.ErrCut)
}

// Each of the things that Work counts, one by one.
func TestP20_1_WorkCountsEachThing(t *testing.T) {
	b := made(t, small())
	want := func(things int) {
		t.Helper()
		if n := b.l.Work(); n != 80*things+1 {
			t.Fatalf("Work: %d, want 80 * %d + 1", n, things)
		}
	}
	want(0)
	b.answers(t, opens(0), 1) // a ticket and a stream
	want(2)
	b.answers(t, asks(1), 1) // a ticket and a ping
	want(4)
	b.answers(t, writes(0, 1, "ab"), 2)
	want(6)
	b.answers(t, steps(0), 1) // twelve bytes for the ticket
	want(17)
	b.answers(t, sends(0, 5), 5) // they are under way, and held no more
	want(17)
	b.answers(t, passes(0, 3), 3) // the server's decoder has them
	want(17)
	b.answers(t, sends(0, 7), 7)
	b.answers(t, passes(0, 9), 9) // the stream waits
	want(6)
	b.answers(t, steps(1), 1) // the ping's ticket
	want(17)
	b.rounds(t, 1) // "ab" is unread; the client has an answer for its ticket
	want(6)
	b.answers(t, accepts(1), 1) // of the table, and with a ticket, but waits no more
	want(7)
	b.answers(t, cuts(), 0)
	want(4) // two streams, and "ab"
}

func TestR7_ANilLink(t *testing.T) {
	var l *link.Link
	for _, e := range []int{0, 1, 2, -1} {
		for _, op := range append(ops(e), api.LinkOp{End: e}, api.LinkOp{Kind: 15, End: e}) {
			r, err := l.Do(op)
			if r.ID != 0 || r.N != 0 || len(r.Data)+len(r.IDs) != 0 || !sentinels.Just(err, api.ErrNil) {
				t.Errorf("Do(%+v): %+v, %v", op, r, err)
			}
		}
		if s := l.End(e); s != nil {
			t.Errorf("End(%d): %v", e, s)
		}
		if n := l.UnderWay(e); n != 0 {
			t.Errorf("UnderWay(%d): %d", e, n)
		}
	}
	if err := l.Round(); !sentinels.Just(err, api.ErrNil) {
		t.Errorf("Round: %v", err)
	}
	if n := l.Work(); n != 0 {
		t.Errorf("Work: %d", n)
	}
}

// The fields that a kind doesn't use are not looked at, and those of the result that it doesn't name are zero.
func TestP20_1_WhatAKindDoesNotUse(t *testing.T) {
	noise := func(op api.LinkOp) api.LinkOp {
		uses := " " + map[api.LinkKind]string{
			api.DoWrite: "ID Data", api.DoRead: "ID N", api.DoClose: "ID", api.DoReset: "ID",
			api.DoSend: "N", api.DoPass: "N", api.DoInject: "Data",
		}[op.Kind] + " "
		if !strings.Contains(uses, " ID ") {
			op.ID = 77
		}
		if !strings.Contains(uses, " N ") {
			op.N = -5
		}
		if !strings.Contains(uses, " Data ") {
			op.Data = []byte("noise")
		}
		return op
	}
	b, quiet := made(t, small()), made(t, small())
	for _, op := range []api.LinkOp{
		opens(0), asks(0), writes(0, 1, "abc"), steps(0), steps(0), steps(0), sends(0, 100), passes(0, 100), accepts(1),
		reads(1, 1, 2), steps(1), steps(1), steps(1), sends(1, 100), passes(1, 100), pongs(0),
		closes(0, 1), goesAway(0), injects(1, specimens.Data(0, 1, "z")), reads(1, 1, 9), resets(1, 1), cuts(),
	} {
		loud, err := b.do(t, noise(op))
		r, why := quiet.do(t, op)
		if loud.ID != r.ID || loud.N != r.N || string(loud.Data) != string(r.Data) || len(loud.IDs) != len(r.IDs) || err != nil || why != nil {
			t.Fatalf("%+v: %+v, %v, and %+v, %v", op, loud, err, r, why)
		}
	}
	b.tells(t)
	quiet.tells(t)
}

// A link of the greatest configuration: 2^20 bytes of a stream, in as many Rounds as frames are needed.
func TestP4_TheGreatestConfiguration(t *testing.T) {
	cfg := api.Config{
		Window: api.MaxWindow, Stage: api.MaxStage, Frame: api.MaxFrame, Streams: api.MaxStreams,
		Backlog: api.MaxBacklog, Pings: api.MaxPings, Out: api.MaxOut,
	}
	b := made(t, cfg)
	text := strings.Repeat("0123456789abcdef", api.MaxStage/16)
	b.answers(t, opens(0), 1)
	b.answers(t, writes(0, 1, text+"x"), len(text))
	b.answers(t, closes(0, 1), 0)
	b.rounds(t, 1+api.MaxStage/api.MaxFrame)
	b.answers(t, accepts(1), 1)
	b.gives(t, reads(1, 1, math.MaxInt), text)
	b.refuses(t, reads(1, 1, 1), api.ErrEOF)
	for token := range api.MaxPings {
		if r, err := b.do(t, asks(1)); int(r.ID) != token+1 || err != nil {
			t.Fatalf("DoPing: %+v, %v", r, err)
		}
	}
	b.refuses(t, asks(1), api.ErrLimit)
	if held := b.l.End(1).Held(); held > session.Cap(cfg) {
		t.Errorf("Held: %d", held)
	}
}

// done: an operation that must not fail.
func done(t *testing.T, l *link.Link, op api.LinkOp) api.LinkResult {
	t.Helper()
	r, err := l.Do(op)
	if err != nil {
		t.Fatalf("%+v: %v", op, err)
	}
	return r
}

// As many streams as there may be, from both ends, each with a byte.
func TestF9_AsManyStreamsAsThereMayBe(t *testing.T) {
	l, err := link.New(changed(func(cfg *api.Config) { cfg.Streams, cfg.Backlog = api.MaxStreams, api.MaxBacklog }))
	if err != nil {
		t.Fatal(err)
	}
	must := func(op api.LinkOp) api.LinkResult { t.Helper(); return done(t, l, op) }
	for range api.MaxStreams / api.MaxBacklog {
		for range api.MaxBacklog {
			for e := range 2 {
				must(writes(e, must(opens(e)).ID, "z"))
			}
		}
		for range 2 * api.MaxBacklog { // all SYNs, then all bytes
			l.Round()
		}
		for range api.MaxBacklog {
			for e := range 2 {
				must(accepts(e))
			}
		}
		for range api.MaxBacklog { // all ACKs
			l.Round()
		}
	}
	for e := range 2 {
		if _, err := l.Do(opens(e)); !sentinels.Just(err, api.ErrLimit) {
			t.Fatalf("one more than %d: %v", api.MaxStreams, err)
		}
		for i := range api.MaxStreams {
			if op := reads(1-e, uint32(2*i+e+1), 9); string(must(op).Data) != "z" {
				t.Fatalf("%+v gives something else", op)
			}
		}
	}
}
