package link_test

import (
	"errors"
	"fmt"
	"math"
	"runtime"
	"slices"
	"strings"
	"sync"
	"testing"
	"weak"

	"culvert/api"
	"culvert/draws"
	"culvert/link"
	"culvert/specimens"
)

// least: for fair rounds in which as little as may be is done.
func least(int) int { return 0 }

// over: all that waits at an end goes to the other.
func over(e int) []api.LinkOp { return []api.LinkOp{sends(e, math.MaxInt), passes(e, math.MaxInt)} }

// isClean: is it none of those behind which P20.5 says nothing?
func isClean(op api.LinkOp) bool {
	return op.Kind != api.DoReset && op.Kind != api.DoAway && op.Kind != api.DoCut && op.Kind != api.DoInject
}

// everyOrder: behind the beginning, so many of the moves in every order, some of them several times. Behind each move P20.2 to P20.4 hold; at the end all is told that P20.1 says, and, where nothing was ended, P20.5 holds.
func everyOrder(t *testing.T, cfg api.Config, begin []api.LinkOp, moves [][]api.LinkOp, many int) {
	t.Helper()
	orders := 1
	for range many {
		orders *= len(moves)
	}
	for order := range orders {
		b := made(t, cfg)
		for _, op := range begin {
			b.do(t, op)
		}
		clean := true
		for range many {
			for _, op := range moves[order%len(moves)] {
				b.do(t, op)
				clean = clean && isClean(op)
			}
			order /= len(moves)
			b.lawful(t)
		}
		b.tells(t)
		if clean {
			b.comesToRest(t, least, 1)
		}
	}
}

// tight is a configuration in which all bounds are near.
func tight() api.Config {
	return api.Config{Window: 2, Stage: 2, Frame: 2, Streams: 1, Backlog: 1, Pings: 1, Out: 13}
}

func one(op api.LinkOp) []api.LinkOp { return []api.LinkOp{op} }

// begun: stream 1 is in both tables, some bytes of it are unread and some under way.
func begun() []api.LinkOp {
	return slices.Concat(one(opens(0)), one(steps(0)), over(0), one(accepts(1)), one(steps(1)), over(1),
		one(writes(0, 1, "ab")), one(steps(0)), over(0), one(writes(1, 1, "xy")), one(steps(1)), one(sends(1, 9)))
}

func TestP20_3_EveryOrderOfFewMoves(t *testing.T) {
	moves := [][]api.LinkOp{
		one(opens(0)), one(accepts(1)), one(writes(0, 1, "cd")), one(writes(1, 1, "z")), one(reads(0, 1, 1)), one(reads(1, 1, 9)),
		one(closes(0, 1)), one(closes(1, 1)), one(resets(0, 1)), one(resets(1, 1)), one(goesAway(1)),
		one(steps(0)), one(steps(1)), over(0), over(1), one(asks(0)), one(cuts()),
	}
	everyOrder(t, tight(), nil, moves, 3)
	everyOrder(t, tight(), begun(), moves, 3)
	everyOrder(t, tight(), begun(), moves[2:15], 4)
}

// P6: each move is of several operations, so that the orders lead further.
func TestP20_5_EveryOrderOfMovesThatEndNothing(t *testing.T) {
	there := append(one(steps(0)), over(0)...)
	back := append(one(steps(1)), over(1)...)
	moves := [][]api.LinkOp{
		{opens(0), writes(0, 1, "ab")}, {accepts(1), writes(1, 1, "c")}, {closes(0, 1), reads(0, 1, 1)}, {reads(1, 1, 1), asks(1)},
		{closes(1, 1)}, there, back,
	}
	everyOrder(t, tight(), nil, moves, 4)
	everyOrder(t, tight(), append(begun(), opens(1)), moves, 4)
}

// drawnConfig: small numbers, so that the bounds are met often.
func drawnConfig(row *draws.Draws) api.Config {
	return api.Config{
		Window: 1 + row.Below(1+row.Below(20)), Stage: 1 + row.Below(12), Frame: 1 + row.Below(6),
		Streams: 1 + row.Below(4), Backlog: 1 + row.Below(3), Pings: 1 + row.Below(3),
		Out: 1 + row.Below(1+row.Below(100)), Skip: row.Below(3),
	}
}

// some: the number of a stream, mostly of one that is there.
func (b *both) some(row *draws.Draws, e int) uint32 {
	all := slices.Concat(b.ends[e].Streams(), b.ends[e].Waiting())
	if len(all) == 0 || row.Below(12) == 0 {
		return uint32(row.Below(12))
	}
	return all[row.Below(len(all))]
}

// drawnCall: one that any user may make, without those that end something.
func (b *both) drawnCall(row *draws.Draws, e int) api.LinkOp {
	id := b.some(row, e)
	switch row.Below(13) {
	case 0:
		return opens(e)
	case 1, 2:
		return accepts(e)
	case 3, 4, 5:
		p := strings.Repeat("abcdefghijklmnopqrstuvwxyz", 2)[len(b.taken[e][id])%26:]
		return writes(e, id, p[:row.Below(15)])
	case 6, 7, 8, 9:
		return reads(e, id, []int{1, 1, 2, 3, 9, 0, -1, math.MaxInt}[row.Below(8)])
	case 10:
		if b.told[e][id] || row.Below(4) == 0 {
			return closes(e, id)
		}
	case 11:
		return asks(e)
	}
	return pongs(e)
}

// drawnEnd: one that ends something, now and then.
func (b *both) drawnEnd(row *draws.Draws, e int) api.LinkOp {
	switch n := row.Below(200); {
	case n < 3:
		return goesAway(e)
	case n < 60:
		return resets(e, b.some(row, e))
	}
	return pongs(e)
}

// wildly: a frame that the other end never sent, or a beginning of one.
func (b *both) wildly(row *draws.Draws, e int) api.LinkOp {
	f := specimens.Data([]uint16{0, api.FlagACK, api.FlagFIN, api.FlagSYN}[row.Below(4)], b.some(row, e), "WILD"[:row.Below(1+min(4, b.p.cfg.Frame))])
	switch row.Below(12) {
	case 0:
		f = specimens.Drawn(row, b.p.cfg.Frame)
	case 1:
		f = specimens.Bare(api.TypeWindow, 0, b.some(row, e), uint32(row.Below(3)))
	}
	op := injects(e, f)
	if row.Below(12) == 0 {
		op.Data = op.Data[:row.Below(len(op.Data))]
	}
	return op
}

// drawn: the next operation; how often what, hangs on the weights.
func (b *both) drawn(row *draws.Draws, weights [5]int) api.LinkOp {
	e := row.Below(2)
	amount := []int{-1, 0, 1, 1, 2, 7, 12, 30, 200, math.MaxInt}[row.Below(10)]
	n, kind := row.Below(40), 0
	for ; kind < 4 && n >= weights[kind]; kind++ {
		n -= weights[kind]
	}
	switch kind {
	case 0:
		return b.drawnCall(row, e)
	case 1:
		return steps(e)
	case 2:
		return sends(e, amount)
	case 3:
		return passes(e, amount)
	}
	return b.drawnEnd(row, e)
}

// turn: one operation, or a Round; behind it the promises hold.
func (b *both) turn(t *testing.T, row *draws.Draws, weights [5]int) {
	t.Helper()
	if row.Below(60) == 0 {
		b.round(t)
	} else {
		b.do(t, b.drawn(row, weights))
	}
	b.tells(t)
	b.lawful(t)
}

// Two links at once, neither of which hears of the other (R9), held against plain ones; the calls are such that everything must come to rest.
func TestP20_5_DrawnRunsComeToRest(t *testing.T) {
	row := draws.Draws(2005)
	worst := 0.0
	for range 60 {
		weights := [5]int{4 + row.Below(20), 1 + row.Below(12), 1 + row.Below(12), 1 + row.Below(12), 0}
		weights[3] += max(0, 40-weights[0]-weights[1]-weights[2]-weights[3]) // no turn is left for what ends something
		pair := [2]*both{made(t, drawnConfig(&row)), made(t, drawnConfig(&row))}
		for range 300 {
			pair[row.Below(2)].turn(t, &row, weights)
		}
		for _, b := range pair {
			rounds, work := b.comesToRest(t, row.Below, 1+row.Below(3)*row.Below(5))
			worst = max(worst, float64(rounds)/float64(work))
		}
	}
	if worst == 0 {
		t.Error("all were at rest already")
	}
	t.Logf("the worst needed %.3f of the rounds that it had", worst)
}

// The states that need the most rounds for what they hold: all that can be taken was, the window and the frames are least, and as little as may be goes over in a round.
func TestP20_5_AllWorkOfSlowLinks(t *testing.T) {
	for _, cfg := range []api.Config{
		{Window: 1, Stage: 1, Frame: 1, Streams: 1, Backlog: 1, Pings: 1, Out: 1},
		{Window: 1, Stage: 9, Frame: 1, Streams: 1, Backlog: 1, Pings: 1, Out: 1},
		{Window: 2, Stage: 9, Frame: 1, Streams: 3, Backlog: 3, Pings: 4, Out: 1},
		{Window: 3, Stage: 9, Frame: 9, Streams: 3, Backlog: 1, Pings: 1, Out: 99},
		{Window: 9, Stage: 3, Frame: 1, Streams: 2, Backlog: 1, Pings: 1, Out: 20},
	} {
		b := made(t, cfg)
		for e := range 2 {
			for range cfg.Backlog {
				r, _ := b.do(t, opens(e))
				b.do(t, writes(e, r.ID, "abcdefghi"))
				b.do(t, closes(e, r.ID))
			}
			for range cfg.Pings {
				b.do(t, asks(e))
			}
		}
		for range b.l.Work() { // all of them, also those behind the rest
			b.fair(t, least, 1)
			b.lawful(t)
		}
		if !b.atRest() {
			t.Fatalf("P20.5: %+v: not at rest", cfg)
		}
		b.delivered(t)
	}
}

// A stream whose ends write while fair rounds go on: what was taken by then is what must be delivered.
func TestP20_5_FromTheMidstOfFairRounds(t *testing.T) {
	row := draws.Draws(2055)
	for range 40 {
		b := made(t, drawnConfig(&row))
		for range 60 {
			b.do(t, b.drawnCall(&row, row.Below(2)))
			b.fair(t, row.Below, 1+row.Below(20))
			b.lawful(t)
		}
		b.tells(t)
		b.comesToRest(t, least, 1)
	}
}

// P20.2 to P20.4 with resets and with ends that go away; then P20.6.
func TestP20_2_DrawnRunsWithEndsAndCuts(t *testing.T) {
	row := draws.Draws(2002)
	for range 80 {
		weights := [5]int{6 + row.Below(16), 1 + row.Below(9), 1 + row.Below(9), 1 + row.Below(9), 0}
		pair := [2]*both{made(t, drawnConfig(&row)), made(t, drawnConfig(&row))}
		for range 300 {
			pair[row.Below(2)].turn(t, &row, weights)
		}
		for _, b := range pair {
			b.cutOff(t)
			for range 40 {
				b.turn(t, &row, weights)
			}
		}
	}
}

// cutOff: a cut, and what P20.6 says of it, for each stream of both tables.
func (b *both) cutOff(t *testing.T) {
	t.Helper()
	var before [2][]api.StreamView
	for e, s := range b.ends {
		for _, id := range s.Streams() {
			v, _ := s.View(id)
			before[e] = append(before[e], v)
		}
	}
	b.do(t, cuts())
	b.tells(t)
	b.underWay(t, 0, 0)
	for e, views := range before {
		for _, v := range views {
			if v.State == api.Reset {
				b.refuses(t, reads(e, v.ID, 1), api.ErrReset)
				continue
			}
			if v.Unread > 0 {
				r, err := b.do(t, reads(e, v.ID, math.MaxInt))
				if err != nil || len(r.Data) != v.Unread {
					t.Fatalf("P20.6: stream %d: %d of %d unread bytes, %v", v.ID, len(r.Data), v.Unread, err)
				}
			}
			want := api.ErrCut
			if v.State == api.RemoteClosed || v.State == api.Closed {
				want = api.ErrEOF
			}
			b.refuses(t, reads(e, v.ID, 1), want)
		}
	}
	b.lawful(t)
}

// P20.1 with bytes that the other end never sent, and what comes of them.
func TestP20_1_DrawnRunsWithInjectedBytes(t *testing.T) {
	row := draws.Draws(2014)
	var over [3]int
	for range 150 {
		b := made(t, drawnConfig(&row))
		weights := [5]int{6 + row.Below(16), 1 + row.Below(9), 1 + row.Below(9), 1 + row.Below(9), 0}
		often := 10 + row.Below(300)
		for range 200 {
			switch row.Below(often) {
			case 0:
				b.do(t, b.wildly(&row, row.Below(2)))
			case 1:
				b.round(t)
			default:
				b.do(t, b.drawn(&row, weights))
			}
			b.tells(t)
		}
		for _, s := range b.ends {
			switch s.Err() {
			case nil:
				over[0]++
			case api.ErrPeer:
				over[1]++
			default:
				over[2]++
			}
		}
	}
	if slices.Min(over[:]) < 20 {
		t.Errorf("how the runs have ended: %v: one kind is too seldom", over)
	}
}

// R4: operations that fail, in any number, leave a link that goes on as one of which they weren't asked.
func TestR4_OperationsThatFailChangeNothing(t *testing.T) {
	row := draws.Draws(204)
	for range 40 {
		cfg, weights := drawnConfig(&row), [5]int{16, 6, 6, 6, 0}
		b := made(t, cfg)
		other, err := link.New(cfg)
		if err != nil {
			t.Fatal(err)
		}
		for range 200 {
			op := b.drawn(&row, weights)
			_, err := b.do(t, op)
			if err == nil || errors.Is(err, api.ErrEOF) || errors.Is(err, api.ErrReset) { // those two change something: that the end was told
				other.Do(op)
			}
			if other.Work() != b.l.Work() || other.UnderWay(0) != b.l.UnderWay(0) {
				t.Fatalf("behind %+v, %v: Work %d, and %d without what failed", op, err, b.l.Work(), other.Work())
			}
		}
		for e := range 2 {
			sameLater(t, other, b, e)
		}
	}
}

// sameLater: all that the ends of the two lay out from now on is the same.
func sameLater(t *testing.T, other *link.Link, b *both, e int) {
	t.Helper()
	for more := true; more; more = other.End(e).Step() && b.l.End(e).Step() {
		if x, y := other.End(e).Take(1<<20), b.l.End(e).Take(1<<20); string(x) != string(y) {
			t.Fatalf("end %d lays out % x, and % x", e, x, y)
		}
	}
}

// handed: weak pointers to what was handed in and to what was answered.
func handed(t *testing.T, l *link.Link) []weak.Pointer[byte] {
	t.Helper()
	text := []byte(strings.Repeat("x", 500))
	must := func(op api.LinkOp) api.LinkResult { t.Helper(); return done(t, l, op) }
	must(opens(0))
	must(api.LinkOp{Kind: api.DoWrite, ID: 1, Data: text})
	for range 3 {
		must(steps(0))
	}
	for _, op := range over(0) {
		must(op)
	}
	must(accepts(1))
	raw := specimens.Bytes(specimens.Data(0, 1, "hidden"))
	must(api.LinkOp{Kind: api.DoInject, End: 1, Data: raw})
	answer := must(reads(1, 1, 150)).Data
	return []weak.Pointer[byte]{weak.Make(&text[0]), weak.Make(&raw[0]), weak.Make(&answer[0])}
}

func TestR6_NeitherWhatWasHandedInNorAnswersAreKept(t *testing.T) {
	l, err := link.New(changed(func(cfg *api.Config) { cfg.Window, cfg.Stage, cfg.Frame = 1000, 1000, 100 }))
	if err != nil {
		t.Fatal(err)
	}
	for i, one := range handed(t, l) {
		runtime.GC()
		if one.Value() != nil {
			t.Errorf("%d of what was handed in and answered is kept", i)
		}
	}
	runtime.KeepAlive(l)
}

// R9: what is told hangs on nothing but the calls.
func TestR9_LinksAtTheSameTime(t *testing.T) {
	var all sync.WaitGroup
	told := make([]string, 8)
	for i := range told {
		all.Go(func() {
			row := draws.Draws(i % 2)
			l, _ := link.New(drawnConfig(&row))
			for range 3000 {
				op := []api.LinkOp{
					opens(0), opens(1), accepts(0), accepts(1), writes(0, 1, "abc"), writes(1, 2, "d"), reads(0, 2, 2), reads(1, 1, 2),
					steps(0), steps(1), sends(0, 20), sends(1, 20), passes(0, 20), passes(1, 20), asks(0), pongs(0), closes(0, 1),
				}[row.Below(17)]
				r, err := l.Do(op)
				told[i] += fmt.Sprint(r, err, l.Work())
			}
		})
	}
	all.Wait()
	for i, text := range told {
		if text != told[i%2] {
			t.Errorf("number %d tells something else", i)
		}
	}
	if told[0] == told[1] {
		t.Error("both rows make the same")
	}
}
