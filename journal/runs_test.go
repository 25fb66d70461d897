package journal_test

import (
	"bytes"
	"errors"
	"fmt"
	"math"
	"runtime"
	"slices"
	"strings"
	"sync"
	"testing"
	"weak"

	"culvert/api"
	"culvert/draws"
	"culvert/journal"
	"culvert/sentinels"
	"culvert/specimens"
)

// Every order of few calls, from the beginning and amid things; each journal is replayed, and goes on beside the one that its bytes have made.
func TestP32_5_EveryOrderOfFewCalls(t *testing.T) {
	tight := api.Config{Window: 2, Stage: 2, Frame: 2, Streams: 2, Backlog: 1, Pings: 1, Out: 13}
	moves := []api.PoolOp{
		news(1, 1, tight), connects(0), cuts(0), opens(), writes(1, "ab"), reads(1, 9), closes(1), resets(1), rounds(1),
		farAccepts(0), farCloses(0, 1), farWrites(0, 1, "x"), far(0, only(api.DoAway)), near(0, only(api.DoStep)), {Kind: 12},
	}
	for _, begin := range [][]api.PoolOp{
		nil,
		{news(1, 1, tight), connects(0), opens(), rounds(1), farAccepts(0), rounds(1)},
		{news(2, 1, tight), connects(0), opens(), rounds(1), farAccepts(0), farWrites(0, 1, "y"), farCloses(0, 1), rounds(3), closes(1)},
	} {
		for order := range len(moves) * len(moves) * len(moves) {
			b := begun(t)
			for _, op := range begin {
				b.do(t, op)
			}
			for i := range 3 {
				b.do(t, moves[order%len(moves)])
				order /= len(moves)
				if i == 1 {
					b.again(t)
				}
			}
			b.tells(t)
			b.again(t)
		}
	}
}

// driver draws calls, mostly such as the journal's pool can take.
type driver struct {
	*both
	conns int
}

func (d *driver) place(row *draws.Draws) int {
	if row.Below(40) == 0 {
		return []int{-1, d.conns, math.MinInt, math.MaxInt}[row.Below(4)]
	}
	return row.Below(d.conns)
}

// handle: mostly one that is one.
func (d *driver) handle(row *draws.Draws) int {
	var all []int
	for h := max(1, d.w.handles-40); h <= d.w.handles; h++ {
		if _, ok := d.w.pool.Handle(h); ok {
			all = append(all, h)
		}
	}
	if len(all) == 0 || row.Below(12) == 0 {
		return row.Below(d.w.handles+3) - 1
	}
	return all[row.Below(len(all))]
}

func amount(row *draws.Draws) int {
	return []int{-1, 0, 1, 1, 2, 7, 12, 30, 200, math.MaxInt}[row.Below(10)]
}

var alphabet = strings.Repeat("abcdefghijklmnopqrstuvwxyz", 2)

func text(row *draws.Draws) string { return alphabet[row.Below(26):][:row.Below(15)] }

func (d *driver) stream(row *draws.Draws) api.PoolOp {
	h := d.handle(row)
	switch row.Below(16) {
	case 0:
		return resets(h)
	case 1, 2, 3:
		return closes(h)
	case 4, 5, 6, 7:
		return writes(h, text(row))
	}
	return reads(h, amount(row))
}

func (d *driver) far(row *draws.Draws) api.PoolOp {
	k := d.place(row)
	id := uint32(row.Below(9))
	if all := d.w.pool.Link(k).End(1).Streams(); len(all) > 0 && row.Below(12) > 0 {
		id = all[row.Below(len(all))]
	}
	switch n := row.Below(300); {
	case n < 40:
		return farAccepts(k)
	case n < 100:
		return farReads(k, id, amount(row))
	case n < 130:
		return farWrites(k, id, text(row))
	case n < 150:
		return farCloses(k, id)
	case n < 155:
		return farResets(k, id)
	case n < 160:
		return far(k, only([]api.LinkKind{api.DoOpen, api.DoPing, api.DoPongs, api.DoCut, 0}[row.Below(5)]))
	case n < 162:
		return far(k, only(api.DoAway))
	case n < 170:
		return injects(k, specimens.Drawn(row, 5))
	case n < 172:
		return injects(k, specimens.Data(0, id, "W"))
	}
	return far(k, many([]api.LinkKind{api.DoStep, api.DoStep, api.DoSend, api.DoPass}[row.Below(4)], amount(row)))
}

func (d *driver) near(row *draws.Draws) api.PoolOp {
	k := d.place(row)
	switch n := row.Below(300); {
	case n < 20:
		return near(k, only(api.DoPing))
	case n < 40:
		return near(k, only(api.DoPongs))
	case n < 44:
		return near(k, only(api.DoAway))
	case n < 60:
		return near(k, many(api.LinkKind(row.Below(17)-1), 1))
	}
	return near(k, many([]api.LinkKind{api.DoStep, api.DoStep, api.DoSend, api.DoPass}[row.Below(4)], amount(row)))
}

// drawn: the next call; Link.End and what else its Kind doesn't name may be anything.
func (d *driver) drawn(row *draws.Draws) api.PoolOp {
	op := d.call(row)
	if row.Below(4) > 0 {
		return op
	}
	wild := drawnOp(row)
	wild.Kind = op.Kind
	return with(wild, op)
}

func (d *driver) call(row *draws.Draws) api.PoolOp {
	switch n := row.Below(1000); {
	case n < 8:
		return news(1+row.Below(3), 1, small())
	case n < 14:
		return api.PoolOp{Kind: []api.PoolKind{-1, 0, 12, 256 + 4, math.MaxInt}[row.Below(5)]}
	case n < 16:
		return writes(d.handle(row), string(make([]byte, 1<<20)))
	case n < 80:
		return connects(d.place(row))
	case n < 84:
		return cuts(d.place(row))
	case n < 210:
		return opens()
	case n < 460:
		return d.stream(row)
	case n < 700:
		return d.far(row)
	case n < 880:
		return d.near(row)
	}
	return rounds([]int{0, 1, 1, 2, 3, 5, -1, 1<<20 + 1}[row.Below(8)])
}

// drawnPool: the call that begins one, with small numbers, so that the bounds are met often.
func drawnPool(row *draws.Draws) api.PoolOp {
	per := 1 + row.Below(3)
	return news(1+row.Below(4), per, api.Config{
		Window: 1 + row.Below(1+row.Below(20)), Stage: 1 + row.Below(12), Frame: 1 + row.Below(6),
		Streams: 2*per + row.Below(3), Backlog: per + row.Below(2), Pings: 1 + row.Below(3),
		Out: 1 + row.Below(1+row.Below(100)), Skip: []int{0, 1, 2, 1<<31 - 4, 1<<31 - 40}[row.Below(5)],
	})
}

func drawnDriver(t *testing.T, row *draws.Draws) *driver {
	t.Helper()
	begin := drawnPool(row)
	return &driver{begun(t, begin), begin.N}
}

// Two journals at once, neither of which hears of the other (R9), each held against the chapter's words; now and then the one that its bytes make goes on beside it.
func TestP32_5_DrawnRuns(t *testing.T) {
	row := draws.Draws(3205)
	met := map[error]int{}
	kinds := map[api.PoolKind]int{}
	for range 40 {
		pair := [2]*driver{drawnDriver(t, &row), drawnDriver(t, &row)}
		for i := range 500 {
			d := pair[row.Below(2)]
			op := d.drawn(&row)
			_, err := d.do(t, op)
			if errors.Is(err, api.ErrProtocol) {
				err = api.ErrProtocol
			}
			met[err]++
			if err == nil {
				kinds[op.Kind]++
			}
			if row.Below(10) == 0 {
				d.tells(t)
			}
			if i%150 == 149 {
				d.again(t)
			}
		}
		for _, d := range pair {
			d.tells(t)
			d.again(t)
		}
	}
	for _, err := range []error{
		nil, api.ErrTwice, api.ErrRange, api.ErrLength, api.ErrNoConn, api.ErrLive, api.ErrDraining, api.ErrLimit, api.ErrExhausted, api.ErrHandle, api.ErrNoStream,
		api.ErrEmpty, api.ErrClosed, api.ErrEOF, api.ErrReset, api.ErrCut, api.ErrProtocol,
	} {
		if met[err] < 5 {
			t.Errorf("calls that end with %v are too seldom: %v", err, met)
		}
	}
	for kind := api.PoolConnect; kind <= api.PoolRounds; kind++ {
		if kinds[kind] < 10 {
			t.Errorf("calls of the Kind %d that don't fail are too seldom: %v", kind, kinds)
		}
	}
}

// gone: the bytes of a drawn run.
func gone(t *testing.T, row *draws.Draws, many int) []byte {
	t.Helper()
	d := drawnDriver(t, row)
	for range many {
		d.do(t, d.drawn(row))
	}
	return d.all[0].Bytes()
}

// P32.6 of a journal's bytes in which something is turned, cut out or put in: what is kept is what is counted, and the pool is the one of those calls.
func TestP32_6_DrawnHarm(t *testing.T) {
	row := draws.Draws(3206)
	met := map[error]int{}
	for range 40 {
		all := gone(t, &row, 60)
		for range 25 {
			harmed := harm(&row, all)
			x, n, err := replayed(t, harmed)
			met[err]++
			if n > 0 && row.Below(8) == 0 {
				d := &driver{x, x.w.calls[0].N}
				d.again(t)
				for range 20 {
					d.do(t, d.drawn(&row))
				}
				d.tells(t)
			}
		}
	}
	for _, want := range []error{nil, api.ErrShort, api.ErrLength, api.ErrHistory, api.ErrArgument, api.ErrTwice, api.ErrMissing, api.ErrRange, api.ErrConfig} {
		if met[want] < 5 {
			t.Errorf("%v is met too seldom: %v", want, met)
		}
	}
}

// harm: bytes that differ in one thing.
func harm(row *draws.Draws, all []byte) []byte {
	ops, _, _ := plainDecode(all)
	at := len(records(ops[:row.Below(len(ops)+1)]...))
	put := func(b []byte) []byte { return slices.Concat(all[:at], b, all[at:]) }
	switch row.Below(12) {
	case 0:
		return all
	case 1:
		b := bytes.Clone(all)
		b[row.Below(len(b))] += byte(1 + row.Below(255))
		return b
	case 2:
		return all[:row.Below(len(all))]
	case 3:
		return put(record(drawnPool(row)))
	case 4:
		return put(framed(drawnBody(row)))
	case 5:
		return put([]byte{0, 0, 0, 0})
	case 6:
		return put(framed([]byte{12}))
	case 7:
		return all[len(record(ops[0])):]
	case 8:
		return append(record(news(0, 1, small())), all...)
	case 9:
		return append(record(news(1, 1, api.Config{})), all...)
	case 10:
		return put(record(opens()))
	}
	return put(drawnRecords(row))
}

// R4: what fails ahead of the pool leaves a journal that goes on as one that wasn't asked; the plain one isn't asked either.
func TestR4_WhatReachesNoPoolChangesNothing(t *testing.T) {
	row := draws.Draws(3207)
	for range 5 {
		d := drawnDriver(t, &row)
		for range 20 {
			for _, op := range []api.PoolOp{drawnPool(&row), {Kind: 12}, writes(d.handle(&row), string(make([]byte, 1<<20))), injects(0, specimens.Data(0, 9, string(make([]byte, 1<<20))))} {
				r, err := done(t, d.all[0], op)
				same(t, op, r, api.LinkResult{})
				if err == nil {
					t.Fatalf("Do(%d) doesn't fail", op.Kind)
				}
			}
			d.do(t, d.drawn(&row))
		}
		d.tells(t)
	}
}

// held: the bytes that are in use.
func held() int {
	runtime.GC()
	runtime.GC()
	var m runtime.MemStats
	runtime.ReadMemStats(&m)
	return int(m.HeapAlloc)
}

// What a journal keeps are its records, with some room to grow, and its pool; of what failed it keeps nothing.
func TestP32_1_WhatIsKept(t *testing.T) {
	cfg := small()
	cfg.Window, cfg.Stage, cfg.Frame = 1<<20, 1<<20, 1<<16
	great := make([]byte, 1<<20)
	before := held()
	b := begun(t, news(1, 1, cfg), connects(0), opens())
	j := b.all[0]
	for range 2000 {
		j.Do(news(1, 1, cfg))
		j.Do(api.PoolOp{Kind: 12, Data: great})
		j.Do(api.PoolOp{Kind: api.PoolWrite, H: 1, Data: great})
	}
	if n := held() - before; n > 100_000 {
		t.Errorf("%d bytes are in use behind calls that reach no pool", n)
	}
	for range 50_000 {
		j.Do(api.PoolOp{Kind: api.PoolWrite, H: 7, Data: great[:100]})
	}
	size := len(j.Bytes())
	if n := held() - before; size < 50_000*121 || n > size*3/2+100_000 {
		t.Errorf("%d bytes are in use for %d bytes of records", n, size)
	}
	runtime.KeepAlive(b)
	runtime.KeepAlive(great)
}

// handed: weak pointers to what was handed in and to what was answered.
func handed(t *testing.T, j *journal.Journal) []weak.Pointer[byte] {
	t.Helper()
	text, raw := []byte(strings.Repeat("x", 500)), specimens.Bytes(specimens.Data(0, 1, "hidden"))
	var answer []byte
	for _, op := range []api.PoolOp{
		connects(0), opens(), {Kind: api.PoolWrite, H: 1, Data: text}, rounds(3), farAccepts(0),
		far(0, api.LinkOp{Kind: api.DoInject, Data: raw}), farReads(0, 1, 150),
	} {
		r, err := j.Do(op)
		if err != nil {
			t.Fatalf("%+v: %v", op, err)
		}
		answer = r.Data
	}
	all := j.Bytes()
	_, _, err := journal.Replay(all)
	if err != nil {
		t.Fatal(err)
	}
	return []weak.Pointer[byte]{weak.Make(&text[0]), weak.Make(&raw[0]), weak.Make(&answer[0]), weak.Make(&all[0])}
}

func TestP32_7_NeitherWhatWasHandedInNorAnswersAreKept(t *testing.T) {
	cfg := small()
	cfg.Window, cfg.Stage, cfg.Frame = 1000, 1000, 100
	j := begun(t, news(1, 1, cfg)).all[0]
	for i, one := range handed(t, j) {
		runtime.GC()
		if one.Value() != nil {
			t.Errorf("%d of what was handed in and answered is kept", i)
		}
	}
	runtime.KeepAlive(j)
}

// A replayed journal keeps no more than the one that it was made of, and not the bytes that it was handed.
func TestP32_7_AReplayedJournalKeepsItsOwnBytes(t *testing.T) {
	j := begun(t, news(1, 1, small())).all[0]
	for range 20_000 {
		j.Do(writes(7, alphabet))
	}
	all := j.Bytes()
	lent := append(bytes.Clone(all), make([]byte, 10<<20)...)
	ahead := weak.Make(&lent[0])
	before := held()
	c, n, err := journal.Replay(lent)
	if n != len(all) || !sentinels.Just(err, api.ErrLength) {
		t.Fatalf("Replay: %d, %v", n, err)
	}
	lent = nil
	if grown := held() - before; ahead.Value() != nil || grown > len(all)/2+100_000-10<<20 {
		t.Errorf("%d bytes more are in use", grown)
	}
	if !bytes.Equal(c.Bytes(), all) {
		t.Error("it keeps other bytes")
	}
	runtime.KeepAlive(j)
}

// Many calls: none takes longer for those that were.
func TestP32_1_ManyCalls(t *testing.T) {
	const many = 300_000
	j := begun(t, news(1, 1, small()), connects(0)).all[0]
	for range many {
		j.Do(writes(7, alphabet))
	}
	all := j.Bytes()
	if want := len(records(news(1, 1, small()), connects(0))) + many*(21+len(alphabet)); len(all) != want {
		t.Fatalf("%d bytes, want %d", len(all), want)
	}
	c, n, err := journal.Replay(all)
	if n != len(all) || err != nil || !bytes.Equal(c.Bytes(), all) {
		t.Errorf("Replay: %d of %d, %v", n, len(all), err)
	}
}

// A greater pool, with as many places as there may be.
func TestP32_5_TheGreatestPool(t *testing.T) {
	row := draws.Draws(3208)
	cfg := small()
	cfg.Window, cfg.Stage, cfg.Streams, cfg.Backlog = 7, 50, 40, 20
	d := &driver{begun(t, news(api.MaxConns, 20, cfg)), api.MaxConns}
	for k := range api.MaxConns {
		if k%9 != 4 {
			d.do(t, connects(k))
		}
	}
	for i := range 6 {
		for range 200 {
			d.do(t, opens())
			d.do(t, writes(d.handle(&row), alphabet[:row.Below(50)]))
			d.do(t, d.drawn(&row))
		}
		d.do(t, rounds(1+row.Below(60)))
		d.tells(t)
		if i%3 == 2 {
			d.again(t)
		}
	}
}

// R9: what is told hangs on nothing but the calls.
func TestR9_JournalsAtTheSameTime(t *testing.T) {
	var all sync.WaitGroup
	told := make([]string, 8)
	for i := range told {
		row := draws.Draws(3209 + i%2)
		d := drawnDriver(t, &row)
		var list []api.PoolOp
		for range 600 {
			op := d.drawn(&row)
			list = append(list, op)
			d.do(t, op)
		}
		begin, handles := d.w.calls[0], d.w.handles
		all.Go(func() {
			j := journal.New()
			for _, op := range append([]api.PoolOp{begin}, list...) {
				r, err := j.Do(op)
				told[i] += fmt.Sprint(r, err)
			}
			c, n, err := journal.Replay(j.Bytes())
			told[i] += fmt.Sprint(j.Bytes(), c.Bytes(), n, err, seen(j.Pool(), handles), seen(c.Pool(), handles))
		})
	}
	all.Wait()
	for i, text := range told {
		if text != told[i%2] {
			t.Errorf("number %d tells something else", i)
		}
	}
	if told[0] == told[1] {
		t.Error("both rows make the same")
	}
}
