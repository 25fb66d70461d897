package pool_test

import (
	"errors"
	"fmt"
	"math"
	"runtime"
	"slices"
	"strings"
	"sync"
	"testing"
	"weak"

	"culvert/api"
	"culvert/draws"
	"culvert/link"
	"culvert/pool"
	"culvert/specimens"
)

// everyOrder: behind the beginning, so many of the moves in every order, some of them several times; at the end all is told as the chapter says.
func everyOrder(t *testing.T, conns, per int, begin []api.PoolOp, moves [][]api.PoolOp, many int) {
	t.Helper()
	orders := 1
	for range many {
		orders *= len(moves)
	}
	for order := range orders {
		b := made(t, conns, per, tight())
		for _, op := range begin {
			b.do(t, op)
		}
		for range many {
			for _, op := range moves[order%len(moves)] {
				b.do(t, op)
			}
			order /= len(moves)
		}
		b.tells(t)
	}
}

// tight is a configuration in which all bounds are near.
func tight() api.Config {
	return api.Config{Window: 2, Stage: 2, Frame: 2, Streams: 2, Backlog: 1, Pings: 1, Out: 13}
}

func one(op api.PoolOp) []api.PoolOp { return []api.PoolOp{op} }

func TestP23_1_EveryOrderOfFewCalls(t *testing.T) {
	moves := [][]api.PoolOp{
		one(connects(0)), one(connects(1)), one(cuts(0)), one(opens()), one(reads(1, 9)), one(closes(1)), one(resets(1)), one(writes(2, "ab")),
		one(rounds(1)), one(farAccepts(0)), one(farCloses(0, 1)), one(farResets(0, 1)), one(far(0, bare(api.DoAway))),
		one(near(0, bare(api.DoStep))), one(near(0, bare(api.DoAway))),
	}
	begun := []api.PoolOp{connects(0), connects(1), opens(), opens(), rounds(1), farAccepts(0), rounds(1)}
	everyOrder(t, 2, 1, nil, moves, 3)
	everyOrder(t, 2, 1, begun, moves, 3)
	ending := append(begun, farCloses(0, 1), rounds(1), farWrites(1, 1, "x"))
	everyOrder(t, 2, 1, ending, slices.Delete(slices.Clone(moves), 9, 13), 4)
}

// Moves of several calls, so that the orders lead further: streams that end in all ways, on connections that do.
func TestP23_3_EveryOrderOfMovesThatEndSomething(t *testing.T) {
	wild := append(hostile(), far(0, bare(api.DoStep)), far(0, many(api.DoSend, 99)), far(0, many(api.DoPass, 99)))
	moves := [][]api.PoolOp{
		{opens(), rounds(1)}, {farAccepts(0), farCloses(0, 1)}, {closes(1), reads(1, 1)}, one(rounds(1)), {reads(1, 1), reads(2, 1)},
		wild, {cuts(0), opens()}, {near(0, bare(api.DoAway)), resets(2)}, {connects(0), opens()},
	}
	everyOrder(t, 2, 1, []api.PoolOp{connects(0), connects(1), opens()}, moves, 4)
}

// drawnConfig: small numbers, so that the bounds are met often; and the most streams that a connection may have.
func drawnConfig(row *draws.Draws) (int, api.Config) {
	per := 1 + row.Below(3)
	return per, api.Config{
		Window: 1 + row.Below(1+row.Below(20)), Stage: 1 + row.Below(12), Frame: 1 + row.Below(6),
		Streams: 2*per + row.Below(3), Backlog: per + row.Below(2), Pings: 1 + row.Below(3),
		Out: 1 + row.Below(1+row.Below(100)), Skip: []int{0, 1, 2, 1<<31 - 4, 1<<31 - 40}[row.Below(5)],
	}
}

// drawnPool: a pool with few places.
func drawnPool(t *testing.T, row *draws.Draws) *both {
	t.Helper()
	per, cfg := drawnConfig(row)
	return made(t, 1+row.Below(4), per, cfg)
}

// place: that of a connection, mostly one that there is.
func (b *both) place(row *draws.Draws) int {
	if row.Below(40) == 0 {
		return []int{-1, len(b.w.spots)}[row.Below(2)]
	}
	return row.Below(len(b.w.spots))
}

// some: a handle, mostly one that is one.
func (b *both) some(row *draws.Draws) int {
	var all []int
	for h := max(1, len(b.w.given)-40); h <= len(b.w.given); h++ {
		if _, ok := b.w.Handle(h); ok {
			all = append(all, h)
		}
	}
	if len(all) == 0 || row.Below(12) == 0 {
		return row.Below(len(b.w.given)+3) - 1
	}
	return all[row.Below(len(all))]
}

var alphabet = strings.Repeat("abcdefghijklmnopqrstuvwxyz", 2)

func amount(row *draws.Draws) int {
	return []int{-1, 0, 1, 1, 2, 7, 12, 30, 200, math.MaxInt}[row.Below(10)]
}

// drawnStream: a call about a handle's stream.
func (b *both) drawnStream(row *draws.Draws) api.PoolOp {
	h := b.some(row)
	switch row.Below(16) {
	case 0:
		return resets(h)
	case 1, 2, 3:
		return closes(h)
	case 4, 5, 6, 7:
		return writes(h, alphabet[row.Below(26):][:row.Below(15)])
	}
	return reads(h, amount(row))
}

// drawnFar: a call at the far end.
func (b *both) drawnFar(row *draws.Draws) api.PoolOp {
	k := b.place(row)
	id := uint32(row.Below(9))
	if all := b.w.Link(k).End(1).Streams(); len(all) > 0 && row.Below(12) > 0 {
		id = all[row.Below(len(all))]
	}
	switch n := row.Below(300); {
	case n < 40:
		return farAccepts(k)
	case n < 100:
		return farReads(k, id, amount(row))
	case n < 130:
		return farWrites(k, id, alphabet[row.Below(26):][:row.Below(15)])
	case n < 150:
		return farCloses(k, id)
	case n < 155:
		return farResets(k, id)
	case n < 160:
		return far(k, bare([]api.LinkKind{api.DoOpen, api.DoPing, api.DoPongs, api.DoCut, 0}[row.Below(5)]))
	case n < 162:
		return far(k, bare(api.DoAway))
	case n < 168:
		return injects(k, b.wild(row, id))
	}
	return far(k, many([]api.LinkKind{api.DoStep, api.DoStep, api.DoSend, api.DoPass}[row.Below(4)], amount(row)))
}

// wild: a frame that the near end never sent, by which the far end goes over, or does what ends the near one.
func (b *both) wild(row *draws.Draws, id uint32) api.Frame {
	switch row.Below(8) {
	case 0:
		return specimens.Drawn(row, b.w.cfg.Frame)
	case 1, 2, 3:
		return specimens.Data(0, id, "W")
	}
	return specimens.Bare(api.TypeWindow, api.FlagSYN, 1001+2*uint32(row.Below(9)), 0)
}

// drawnNear: a call at the near end.
func (b *both) drawnNear(row *draws.Draws) api.PoolOp {
	k := b.place(row)
	switch n := row.Below(300); {
	case n < 20:
		return near(k, bare(api.DoPing))
	case n < 40:
		return near(k, bare(api.DoPongs))
	case n < 44:
		return near(k, bare(api.DoAway))
	case n < 60:
		return near(k, many(api.LinkKind(row.Below(17)-1), 1))
	}
	return near(k, many([]api.LinkKind{api.DoStep, api.DoStep, api.DoSend, api.DoPass}[row.Below(4)], amount(row)))
}

// drawn: the next call.
func (b *both) drawn(row *draws.Draws) api.PoolOp {
	switch n := row.Below(100); {
	case n < 6:
		return connects(b.place(row))
	case n < 7:
		if row.Below(3) == 0 {
			return cuts(b.place(row))
		}
		return opens()
	case n < 20:
		return opens()
	case n < 45:
		return b.drawnStream(row)
	case n < 70:
		return b.drawnFar(row)
	case n < 88:
		return b.drawnNear(row)
	}
	return rounds([]int{0, 1, 1, 2, 3, 5, -1}[row.Below(7)])
}

// Two pools at once, neither of which hears of the other (R9), held against plain ones, whose connections have their rounds one behind the other (P23.6).
func TestP23_1_DrawnRunsHeldAgainstThePlainPool(t *testing.T) {
	row := draws.Draws(2301)
	met := map[error]int{}
	over := map[error]int{}
	for range 60 {
		pair := [2]*both{drawnPool(t, &row), drawnPool(t, &row)}
		for range 800 {
			b := pair[row.Below(2)]
			op := b.drawn(&row)
			if op.Kind == api.PoolConnect {
				over[why(b.p.Link(op.K))]++
			}
			_, err := b.do(t, op)
			if op.Kind == api.PoolOpen {
				met[err]++
			}
			b.tells(t)
		}
	}
	for _, err := range []error{nil, api.ErrNoConn, api.ErrDraining, api.ErrLimit, api.ErrExhausted} {
		if met[err] < 10 {
			t.Errorf("Opens that end with %v are too seldom: %v", err, met)
		}
	}
	for _, err := range []error{nil, api.ErrCut, api.ErrPeer, api.ErrProtocol} {
		if over[err] < 10 {
			t.Errorf("connections that end with %v are too seldom: %v", err, over)
		}
	}
}

// why: the connection lives no more for this reason, if it doesn't.
func why(l *link.Link) error {
	err := l.End(0).Err()
	if errors.Is(err, api.ErrProtocol) {
		return api.ErrProtocol
	}
	return err
}

// P23.2, P7: an Open succeeds just if the connections' views say that it may, and goes where they say.
func TestP23_2_OpensAsTheViewsSay(t *testing.T) {
	row := draws.Draws(2302)
	for range 40 {
		b := drawnPool(t, &row)
		for range 300 {
			b.do(t, b.drawn(&row))
			var before []api.ConnView
			may := 0
			for k := range b.w.spots {
				v, _ := b.p.Conn(k)
				before = append(before, v)
				if v.Live && !v.Draining && v.Open < b.w.per && v.Left > 0 {
					may++
				}
			}
			r, err := b.do(t, opens())
			if (err == nil) != (may > 0) {
				t.Fatalf("Open: %v, where %d may take a stream", err, may)
			}
			if err != nil {
				continue
			}
			at, _ := b.p.Handle(r.N)
			for k, v := range before {
				if v.Live && !v.Draining && v.Left > 0 && (v.Open < before[at.Conn].Open || v.Open == before[at.Conn].Open && k < at.Conn) {
					t.Fatalf("Open went to %d of %+v", at.Conn, before)
				}
			}
			if after, _ := b.p.Conn(at.Conn); after.Open != before[at.Conn].Open+1 || after.Left != before[at.Conn].Left-1 {
				t.Fatalf("Conn(%d): %+v, was %+v", at.Conn, after, before[at.Conn])
			}
		}
	}
}

// record is a call with what has come of it.
type record struct {
	op    api.PoolOp
	r     api.LinkResult
	err   error
	where int       // the place that it went to; -1 if it was none, or all
	at    api.Place // of an Open
}

// recorded: so many drawn calls.
func (b *both) recorded(t *testing.T, row *draws.Draws, many int) []record {
	t.Helper()
	var list []record
	for range many {
		x := record{op: b.drawn(row), where: -1}
		x.r, x.err = b.do(t, x.op)
		switch kind := x.op.Kind; {
		case kind == api.PoolOpen && x.err == nil:
			x.at = b.w.given[x.r.N-1]
			x.where = x.at.Conn
		case kind >= api.PoolWrite && kind <= api.PoolReset && x.op.H >= 1 && x.op.H <= len(b.w.given):
			x.where = b.w.given[x.op.H-1].Conn
		case kind == api.PoolConnect || kind == api.PoolCut || kind == api.PoolFar || kind == api.PoolNear:
			x.where = x.op.K
		}
		list = append(list, x)
	}
	return list
}

// without: P23.4 for a pool in which the calls that went to some places are left out.
func (b *both) without(t *testing.T, list []record, out func(k int) bool) {
	t.Helper()
	other, err := pool.New(len(b.w.spots), b.w.per, b.w.cfg)
	if err != nil {
		t.Fatal(err)
	}
	numbers := map[int]int{} // the handles of the other one
	for _, x := range list {
		if x.where >= 0 && out(x.where) {
			continue
		}
		op := x.op
		op.H = numbers[op.H]
		r, err := call(other, op)
		switch {
		case op.Kind != api.PoolOpen:
			fails(t, op, err, x.err)
			same(t, op, r, x.r)
		case x.err != nil:
			if err == nil {
				t.Fatalf("P23.4: an Open succeeds, which failed with %v where there were more calls", x.err)
			}
		default:
			if at, _ := other.Handle(r.N); at != x.at {
				t.Fatalf("P23.4: an Open goes to %v, %v, and not to %v", at, err, x.at)
			}
			numbers[x.r.N] = r.N
		}
	}
	for k := range b.w.spots {
		if out(k) {
			continue
		}
		if got, want := seen(other.Link(k)), seen(b.p.Link(k)); got != want {
			t.Fatalf("P23.4: place %d:\n%s, want\n%s", k, got, want)
		}
	}
}

func TestP23_4_WhatHappensAtAConnectionHangsOnItsOwnCalls(t *testing.T) {
	row := draws.Draws(2304)
	for range 40 {
		b := drawnPool(t, &row)
		list := b.recorded(t, &row, 500)
		for k := range b.w.spots {
			b.without(t, list, func(other int) bool { return other == k })
			b.without(t, list, func(other int) bool { return other != k })
		}
		b.without(t, list, func(int) bool { return false })
	}
}

// P23.6: as many connections as there may be, some of which don't live, beside plain ones that have their rounds one behind the other.
func TestP23_6_RoundsOfManyConnections(t *testing.T) {
	row := draws.Draws(2306)
	cfg := changed(func(cfg *api.Config) { cfg.Window, cfg.Stage = 7, 50 })
	for range 6 {
		b := made(t, api.MaxConns, 2, cfg)
		for k := range api.MaxConns {
			if k%9 != 4 {
				b.do(t, connects(k))
			}
		}
		for range 8 {
			b.recorded(t, &row, 60)
			for range 40 {
				b.do(t, opens())
				b.do(t, writes(b.some(&row), alphabet[:row.Below(50)]))
			}
			b.do(t, rounds(1+row.Below(60)))
			b.tells(t)
		}
	}
}

// P23.5: at a cut, wherever it comes, the streams give what was unread, and then tell their end; nothing else changes.
func TestP23_5_CutsInDrawnRuns(t *testing.T) {
	row := draws.Draws(2305)
	for range 60 {
		b := drawnPool(t, &row)
		b.recorded(t, &row, 300)
		for k := range b.w.spots {
			b.do(t, connects(k))
		}
		b.recorded(t, &row, 100)
		k := row.Below(len(b.w.spots))
		if v, _ := b.p.Conn(k); v.Live {
			b.cutOff(t, k)
		}
		b.recorded(t, &row, 50)
		b.tells(t)
	}
}

func (b *both) cutOff(t *testing.T, k int) {
	t.Helper()
	var others []string
	for other := range b.w.spots {
		others = append(others, seen(b.p.Link(other)))
	}
	before := map[int]api.StreamView{}
	for h := range len(b.w.given) + 1 {
		if at, ok := b.p.Handle(h); ok && at.Conn == k {
			before[h], _ = b.p.Link(k).End(0).View(at.ID)
		}
	}
	b.well(t, cuts(k))
	for h, v := range before {
		if v.State == api.Reset {
			b.refuses(t, reads(h, 1), api.ErrReset)
			continue
		}
		if v.Unread > 0 {
			if r := b.well(t, reads(h, math.MaxInt)); len(r.Data) != v.Unread {
				t.Fatalf("P23.5: %d bytes of %d that were unread", len(r.Data), v.Unread)
			}
		}
		want := api.ErrCut
		if v.State == api.RemoteClosed || v.State == api.Closed {
			want = api.ErrEOF
		}
		b.refuses(t, reads(h, 1), want)
		if _, stays := b.p.Handle(h); stays != (want == api.ErrCut) {
			t.Fatalf("P23.5: handle %d behind %v: %v", h, want, stays)
		}
	}
	for other, text := range others {
		if other != k && seen(b.p.Link(other)) != text {
			t.Fatalf("P23.5: a cut of %d has changed %d", k, other)
		}
	}
}

// R4: calls that fail leave a pool that goes on as one of which they weren't asked.
func TestR4_CallsThatFailChangeNothing(t *testing.T) {
	row := draws.Draws(234)
	for range 40 {
		b := drawnPool(t, &row)
		other, err := pool.New(len(b.w.spots), b.w.per, b.w.cfg)
		if err != nil {
			t.Fatal(err)
		}
		for _, x := range b.recorded(t, &row, 500) {
			ends := errors.Is(x.err, api.ErrEOF) || errors.Is(x.err, api.ErrReset) || x.op.Link.Kind == api.DoInject // they tell an end, or make one
			if x.err == nil || ends {
				call(other, x.op)
			}
		}
		for k := range b.w.spots {
			got, _ := other.Conn(k)
			want, _ := b.p.Conn(k)
			if got != want || seen(other.Link(k)) != seen(b.p.Link(k)) {
				t.Fatalf("place %d: %+v without what failed, else %+v", k, got, want)
			}
		}
		for h := range len(b.w.given) + 2 {
			got, _ := other.Handle(h)
			if want, _ := b.p.Handle(h); got != want {
				t.Fatalf("handle %d: %v without what failed, else %v", h, got, want)
			}
		}
	}
}

// handed: weak pointers to what was handed in and to what was answered.
func handed(t *testing.T, p *pool.Pool) []weak.Pointer[byte] {
	t.Helper()
	text, raw := []byte(strings.Repeat("x", 500)), specimens.Bytes(specimens.Data(0, 1, "hidden"))
	var answer []byte
	for _, op := range []api.PoolOp{
		connects(0), opens(), {Kind: api.PoolWrite, H: 1, Data: text}, rounds(3), farAccepts(0),
		far(0, api.LinkOp{Kind: api.DoInject, Data: raw}), farReads(0, 1, 150),
	} {
		r, err := call(p, op)
		if err != nil {
			t.Fatalf("%+v: %v", op, err)
		}
		answer = r.Data
	}
	return []weak.Pointer[byte]{weak.Make(&text[0]), weak.Make(&raw[0]), weak.Make(&answer[0])}
}

func TestR6_NeitherWhatWasHandedInNorAnswersAreKept(t *testing.T) {
	p, err := pool.New(1, 1, changed(func(cfg *api.Config) { cfg.Window, cfg.Stage, cfg.Frame = 1000, 1000, 100 }))
	if err != nil {
		t.Fatal(err)
	}
	for i, one := range handed(t, p) {
		runtime.GC()
		if one.Value() != nil {
			t.Errorf("%d of what was handed in and answered is kept", i)
		}
	}
	runtime.KeepAlive(p)
}

// The elder connection of a place is let go.
func TestP23_1_ElderConnectionsAreNotKept(t *testing.T) {
	p, err := pool.New(2, 2, small())
	if err != nil {
		t.Fatal(err)
	}
	var elder []weak.Pointer[link.Link]
	for range 5 {
		p.Connect(1)
		p.Open()
		elder = append(elder, weak.Make(p.Link(1)))
		p.Cut(1)
	}
	runtime.GC()
	runtime.GC()
	for i, l := range elder {
		if kept := l.Value() != nil; kept != (i == len(elder)-1) {
			t.Errorf("connection %d: kept %v", i, kept)
		}
	}
	runtime.KeepAlive(p)
}

// heap: how many bytes are in use.
func heap() int {
	var m runtime.MemStats
	runtime.GC()
	runtime.GC()
	runtime.ReadMemStats(&m)
	return int(m.HeapAlloc)
}

// Handles that are none any more take no memory, whichever way they went; of some nobody ever asks again.
func TestP23_3_HandlesThatAreGoneAreNotKept(t *testing.T) {
	p, err := pool.New(2, 1, small())
	if err != nil {
		t.Fatal(err)
	}
	must := func(ops ...api.PoolOp) {
		for _, op := range ops {
			if _, err := call(p, op); err != nil {
				t.Fatalf("%+v: %v", op, err)
			}
		}
	}
	must(connects(0))
	handle := 0
	turns := func(many int) {
		for i := range many {
			handle++
			id := uint32(1 + 4*i) // every other one is reset ahead of its SYN
			must(opens(), rounds(1), farAccepts(0), far(0, api.LinkOp{Kind: api.DoClose, ID: id}), rounds(2))
			if _, err := p.Read(handle, 1); err != api.ErrEOF {
				t.Fatal(err)
			}
			must(closes(handle), rounds(1)) // it leaves without being asked
			call(p, farReads(0, id, 1))
			handle++
			must(opens(), resets(handle))
		}
		must(opens(), cuts(0), connects(0))
		handle++
	}
	turns(500)
	before := heap()
	for range 20 {
		turns(500)
	}
	if grown := heap() - before; grown > 50_000 {
		t.Errorf("%d bytes more behind 20 000 handles", grown)
	}
	runtime.KeepAlive(p)
}

// The greatest pool that there may be, full.
func TestP23_2_TheGreatestPool(t *testing.T) {
	const most = api.MaxConns * api.MaxBacklog
	p, err := pool.New(api.MaxConns, api.MaxBacklog, changed(func(cfg *api.Config) { cfg.Streams, cfg.Backlog = 2*api.MaxBacklog, api.MaxBacklog }))
	if err != nil {
		t.Fatal(err)
	}
	for k := range api.MaxConns {
		if err := p.Connect(k); err != nil {
			t.Fatal(err)
		}
	}
	for i := range most {
		h, err := p.Open()
		want := at(i%api.MaxConns, 1, uint32(1+2*(i/api.MaxConns)))
		if got, ok := p.Handle(h); err != nil || h != i+1 || !ok || got != want {
			t.Fatalf("Open %d: %d at %v, %v", i, h, got, err)
		}
	}
	_, err = p.Open()
	fails(t, "Open", err, api.ErrLimit)
	if err := p.Rounds(api.MaxBacklog); err != nil {
		t.Fatal(err)
	}
	for k := range api.MaxConns {
		if n := len(p.Link(k).End(1).Waiting()); n != api.MaxBacklog {
			t.Fatalf("%d wait at the far end of %d", n, k)
		}
	}
	for h := 1; h <= most; h++ {
		if err := p.Reset(h); err != nil {
			t.Fatalf("Reset(%d): %v", h, err)
		}
	}
	for i := range most { // beside as many RST tickets
		if h, err := p.Open(); h != most+1+i || err != nil {
			t.Fatalf("Open: %d, %v", h, err)
		}
	}
}

// R9: what is told hangs on nothing but the calls.
func TestR9_PoolsAtTheSameTime(t *testing.T) {
	var all sync.WaitGroup
	told := make([]string, 8)
	for i := range told {
		row := draws.Draws(230 + i%2)
		b := drawnPool(t, &row)
		list := b.recorded(t, &row, 1500)
		p, err := pool.New(len(b.w.spots), b.w.per, b.w.cfg)
		if err != nil {
			t.Fatal(err)
		}
		all.Go(func() {
			for _, x := range list {
				r, err := call(p, x.op)
				told[i] += fmt.Sprint(r, err)
			}
			for k := range b.w.spots {
				told[i] += seen(p.Link(k))
			}
		})
	}
	all.Wait()
	for i, text := range told {
		if text != told[i%2] {
			t.Errorf("number %d tells something else", i)
		}
	}
	if told[0] == told[1] {
		t.Error("both rows make the same")
	}
}
