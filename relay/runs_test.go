package relay_test

import (
	"errors"
	"fmt"
	"math"
	"runtime"
	"slices"
	"strings"
	"sync"
	"testing"

	"culvert/api"
	"culvert/draws"
	"culvert/relay"
	"culvert/specimens"
)

// everyOrder: so many of these in every order, some of them several times, behind a beginning.
func everyOrder(t *testing.T, many int, begin func() *both, steps []func(b *both)) {
	t.Helper()
	orders := 1
	for range many {
		orders *= len(steps)
	}
	for order := range orders {
		b := begin()
		for range many {
			steps[order%len(steps)](b)
			order /= len(steps)
		}
		b.turn(t)
		b.tells(t)
	}
}

func TestP30_1_EveryOrderOfFewCalls(t *testing.T) {
	does := func(moves ...move) func(b *both) { return func(b *both) { b.all(t, moves...) } }
	turn := func(b *both) { b.turn(t) }
	steps := []func(b *both){
		turn, does(fronts(1)), does(pools(1)), does(client(opens())), does(client(writes(1, "abc"))), does(client(closes(1))), does(client(resets(1)), brings(client)),
		does(far(0, accepts()), far(0, reads(1, 2))), does(far(0, writes(1, "xyz"))), does(far(0, closes(1))), does(far(0, resets(1)), brings(at(far, 0))),
		does(cuts(0)), does(connects(0)),
	}
	everyOrder(t, 3, func() *both { return example(t) }, steps)
	everyOrder(t, 3, func() *both { return paired(t, 1, 2) }, steps)
	everyOrder(t, 3, func() *both {
		b := paired(t, 2, 1)
		b.all(t, client(writes(1, "abcdefgh")), far(0, writes(1, "uvwxyz")), fronts(2), pools(2))
		b.turn(t)
		b.all(t, client(closes(1)))
		return b
	}, steps)
	everyOrder(t, 5, func() *both {
		b := paired(t, 1, 2)
		b.all(t, client(writes(1, "abcd")), far(0, writes(1, "wxyz")), fronts(2), pools(2), client(closes(1)), far(0, closes(1)))
		return b
	}, []func(b *both){turn, does(fronts(1)), does(pools(1)), does(client(reads(1, 9))), does(far(0, reads(1, 9)))})
}

// letters: so many, each the one behind that with the number before.
func letters(from, many int) string {
	var text strings.Builder
	for i := range many {
		text.WriteByte(byte('a' + (from+i)%26))
	}
	return text.String()
}

// drawnOp: something that a lawful user does with a stream.
func drawnOp(row *draws.Draws, id uint32) api.LinkOp {
	switch row.Below(16) {
	case 0, 1, 2, 3:
		return writes(id, letters(row.Below(26), row.Below(9)))
	case 4, 5, 6, 7, 8:
		return reads(id, row.Below(7))
	case 9, 10:
		return closes(id)
	case 11:
		return resets(id)
	case 12, 13:
		return accepts()
	case 14:
		return sends(row.Below(30))
	}
	return passes(row.Below(30))
}

// picked: one of the streams that an end has; 1, if it has none.
func picked(row *draws.Draws, ids []uint32) uint32 {
	if len(ids) == 0 {
		return 1
	}
	return ids[row.Below(len(ids))]
}

// drawnMove: something that may be done at a front and a pool, the relay aside; how harsh it may be is up to 100.
func drawnMove(row *draws.Draws, w *world, conns, harsh int) move {
	if row.Below(400) < harsh {
		return drawnHarm(row, conns)
	}
	k := row.Below(conns)
	switch n := row.Below(20); {
	case n < 2:
		return client(opens())
	case n < 6:
		return client(drawnOp(row, picked(row, w.front.End(0).Streams())))
	case n < 11:
		return far(k, drawnOp(row, picked(row, w.pool.Link(k).End(1).Streams())))
	case n < 14:
		return fronts(1 + row.Below(3))
	case n < 17:
		return pools(1 + row.Below(3))
	case n < 18:
		return brings([]func(op api.LinkOp) move{client, server, at(far, k), at(near, k)}[row.Below(4)])
	}
	return far(k, accepts())
}

// drawnHarm: something that others do where the relay is the user, or by which a connection is over.
func drawnHarm(row *draws.Draws, conns int) move {
	k, handle := row.Below(conns), 1+row.Below(20)
	switch n := row.Below(20); {
	case n < 4:
		return server(drawnOp(row, uint32(2*row.Below(20)+1)))
	case n < 8:
		return []move{taps(), drops(handle), shuts(handle), puts(handle, "mn"), gets(handle, 2)}[row.Below(5)]
	case n < 13:
		return connects(k)
	case n < 16:
		return cuts(k)
	}
	return drawnEnd(row, k)
}

// drawnEnd: something by which an end is over, or goes away.
func drawnEnd(row *draws.Draws, k int) move {
	switch row.Below(16) {
	case 0, 1:
		return near(k, leaves())
	case 2, 3:
		return far(k, leaves())
	case 4, 5, 6:
		return far(k, injects(specimens.Data(0, 99, "x")))
	case 7, 8, 9, 10:
		return far(k, injects(specimens.Bare(api.TypePing, api.FlagSYN, 0, 77)))
	case 11:
		return server(injects(specimens.Data(0, 99, "x")))
	case 12:
		return server(injects(specimens.Bare(api.TypeAway, 0, 0, 2)))
	case 13:
		return client(leaves())
	case 14:
		return server(leaves())
	}
	return client(api.LinkOp{Kind: api.DoCut})
}

// drawnConfig: small numbers, so that each bound is met often.
func drawnConfig(row *draws.Draws) api.Config {
	return api.Config{
		Window: 1 + row.Below(6), Stage: 1 + row.Below(8), Frame: 1 + row.Below(5),
		Streams: 4 + row.Below(5), Backlog: 1 + row.Below(5), Pings: 1, Out: 1 + row.Below(64),
	}
}

func drawnBoth(t *testing.T, row *draws.Draws, conns int) *both {
	t.Helper()
	cfg := drawnConfig(row)
	per := 1 + row.Below(min(cfg.Backlog, cfg.Streams/2))
	return made(t, drawnConfig(row), conns, per, cfg, 1+row.Below(7))
}

// tally: how often each sort of thing has come about.
type tally map[string]int

// counts: one Turn, whose outcome is counted and held against P30.4.
func (b *both) counts(t *testing.T, counts tally) {
	t.Helper()
	before, refused := b.r.Pairs(), len(b.w.refused)
	n, err := b.turn(t)
	b.tells(t)
	after := b.r.Pairs()
	for _, p := range before {
		stays := slices.ContainsFunc(after, func(q api.Pair) bool { return q.Handle == p.Handle })
		_, broke := b.w.broken[p.Front]
		switch {
		case err != nil:
			counts["a pair goes with the front"]++
		case broke:
			counts[fmt.Sprintf("breaks, up done %v, down done %v", p.UpDone, p.DownDone)]++
			b.toldAtBothSides(t, p)
		case stays:
			counts["stays"]++
		default:
			counts["both done"]++
		}
	}
	for _, p := range after {
		counts.pair(b, p)
	}
	switch {
	case err != nil:
		counts["fails"]++
	case n > 0:
		counts["bytes go on"]++
	}
	counts["refused"] += len(b.w.refused) - refused
}

func (c tally) pair(b *both, p api.Pair) {
	if p.Up == b.w.size || p.Down == b.w.size {
		c["full"]++
	}
	if !slices.Contains(b.front.End(1).Streams(), p.Front) {
		c["without a front stream"]++
	}
	if !isHandle(b, p.Handle) {
		c["without a handle"]++
	}
	words := b.w.pairs[p.Front]
	if words.up.ended && !p.UpDone || words.down.ended && !p.DownDone {
		c["ended and not done"]++
	}
}

// toldAtBothSides: a pair that broke in the last Turn is in no table any more, but for one that was cut.
func (b *both) toldAtBothSides(t *testing.T, p api.Pair) {
	t.Helper()
	if slices.Contains(b.front.End(1).Streams(), p.Front) {
		t.Fatalf("P30.4: %+v has broken, and the front has its stream", p)
	}
	if at, ok := b.pool.Handle(p.Handle); ok && b.pool.Link(at.Conn).End(0).Err() == nil {
		t.Fatalf("P30.4: %+v has broken, and its handle stands for %+v", p, at)
	}
}

// Drawn runs of two relays side by side, with all that may be done at a front and at a pool, by others too.
func TestP30_1_DrawnRuns(t *testing.T) {
	counts := tally{}
	for begin := range 400 {
		row := draws.Draws(begin)
		harsh := []int{0, 4, 20, 60}[row.Below(4)]
		conns := 1 + row.Below(3)
		two := []*both{drawnBoth(t, &row, conns), drawnBoth(t, &row, conns)}
		for range 500 {
			b := two[row.Below(2)]
			switch n := row.Below(40); {
			case n < 12:
				b.counts(t, counts)
			case n < 13:
				b.refuses(t, slices.Clone(b.w.refused)...)
			default:
				b.all(t, drawnMove(&row, b.world, conns, harsh))
			}
		}
		two[0].tells(t)
		two[1].tells(t)
	}
	for _, kind := range []string{
		"a pair goes with the front", "stays", "both done", "full", "without a front stream", "without a handle", "ended and not done", "fails", "bytes go on", "refused",
		"breaks, up done false, down done false", "breaks, up done true, down done false", "breaks, up done false, down done true",
	} {
		if counts[kind] < 30 {
			t.Errorf("%s: only %d times, of %v", kind, counts[kind], counts)
		}
	}
}

// told is a direction of a stream, as its two ends see it.
type told struct {
	written, read string
	closed, ended bool
}

func (d *told) writes(text string, n int) { d.written += text[:n] }

// reads: what was read must be what was written; an end may be told behind all of it alone.
func (d *told) reads(t *testing.T, b []byte, err error) {
	t.Helper()
	d.read += string(b)
	if !strings.HasPrefix(d.written, d.read) {
		t.Fatalf("P30.3: %q was read, and %q written", d.read, d.written)
	}
	if errors.Is(err, api.ErrEOF) {
		d.ended = true
		if d.read != d.written || !d.closed {
			t.Fatalf("P30.3: the end was told: %+v", d)
		}
	}
}

// ends is a front's client and a pool's far ends, that are lawful, with a relay between; each writes letters of its own.
type ends struct {
	*world
	r        *relay.Relay
	up, down map[uint32]*told // by the front stream
	fronts   map[api.Place]uint32
	letter   int
	refused  int
}

func newEnds(t *testing.T, w *world, size int) *ends {
	return &ends{world: w, r: newRelay(t, w, size), up: map[uint32]*told{}, down: map[uint32]*told{}, fronts: map[api.Place]uint32{}}
}

func (e *ends) turn() error {
	_, err := e.r.Turn()
	for _, p := range e.r.Pairs() {
		if at, ok := e.pool.Handle(p.Handle); ok {
			e.fronts[at] = p.Front
		}
	}
	e.refused += len(e.r.Refused())
	return err
}

// open: a new stream of the client; its number.
func (e *ends) open() uint32 {
	r, err := e.front.Do(opens())
	if err == nil {
		e.up[r.ID], e.down[r.ID] = &told{}, &told{}
	}
	return r.ID
}

// place: of a far end's stream, the front's stream that it is paired with; false: there is none.
func (e *ends) place(k int, id uint32) (uint32, bool) {
	v, _ := e.pool.Conn(k)
	front, ok := e.fronts[api.Place{Conn: k, Life: v.Life, ID: id}]
	return front, ok
}

// atClient, atFar: an operation there, whose outcome is noted.

func (e *ends) atClient(t *testing.T, op api.LinkOp) {
	t.Helper()
	if e.up[op.ID] == nil {
		return
	}
	r, err := e.front.Do(op)
	note(t, op, r, err, e.up[op.ID], e.down[op.ID])
}

func (e *ends) atFar(t *testing.T, k int, op api.LinkOp) {
	t.Helper()
	r, err := e.pool.Far(k, op)
	front, ok := e.place(k, op.ID)
	if !ok {
		if len(r.Data) > 0 || errors.Is(err, api.ErrEOF) {
			t.Fatalf("P30.3: %d at %d tells %q, %v, and has no pair", op.ID, k, r.Data, err)
		}
		return
	}
	note(t, op, r, err, e.down[front], e.up[front])
}

func note(t *testing.T, op api.LinkOp, r api.LinkResult, err error, out, in *told) {
	t.Helper()
	switch op.Kind {
	case api.DoWrite:
		out.writes(string(op.Data), r.N)
	case api.DoClose:
		out.closed = out.closed || err == nil
	case api.DoRead:
		in.reads(t, r.Data, err)
	}
}

// text: the next letters of all.
func (e *ends) text(many int) string {
	e.letter += many
	return letters(e.letter-many, many)
}

// lawful: a drawn thing that a client or a far end does, or a movement, or a Turn.
func (e *ends) lawful(t *testing.T, row *draws.Draws, conns int) {
	t.Helper()
	k := row.Below(conns)
	id := picked(row, e.front.End(0).Streams())
	theirs := picked(row, e.pool.Link(k).End(1).Streams())
	switch row.Below(20) {
	case 0:
		e.open()
	case 1, 2:
		e.atClient(t, writes(id, e.text(row.Below(9))))
	case 3, 4:
		e.atFar(t, k, writes(theirs, e.text(row.Below(9))))
	case 5, 6:
		e.atClient(t, reads(id, row.Below(6)))
	case 7, 8:
		e.atFar(t, k, reads(theirs, row.Below(6)))
	case 9:
		if row.Below(4) == 0 {
			e.atClient(t, closes(id))
		}
	case 10:
		if row.Below(4) == 0 {
			e.atFar(t, k, closes(theirs))
		}
	case 11:
		e.pool.Far(k, accepts())
	case 12:
		brings([]func(op api.LinkOp) move{client, server, at(far, k), at(near, k)}[row.Below(4)])(e.world)
	case 13:
		part := []api.LinkOp{steps(), sends(row.Below(20)), passes(row.Below(20))}[row.Below(3)]
		[]func(op api.LinkOp) move{client, server, at(far, k), at(near, k)}[row.Below(4)](part)(e.world)
	case 14, 15:
		fronts(1)(e.world)
	case 16, 17:
		pools(1)(e.world)
	default:
		e.turn()
	}
}

// P30.3 by its own words, with resets, cuts and connections anew among all the rest.
func TestP30_3_WhatIsReadIsABeginningOfWhatWasWritten(t *testing.T) {
	bytes, over := 0, 0
	for begin := range 600 {
		row := draws.Draws(begin)
		conns, cfg := 1+row.Below(3), drawnConfig(&row)
		e := newEnds(t, newWorld(t, drawnConfig(&row), conns, 1+row.Below(min(cfg.Backlog, cfg.Streams/2)), cfg), 1+row.Below(9))
		for range 700 {
			e.lawful(t, &row, conns)
			k := row.Below(conns)
			switch row.Below(200) {
			case 0:
				client(resets(picked(&row, e.front.End(0).Streams())))(e.world)
			case 1:
				far(k, resets(picked(&row, e.pool.Link(k).End(1).Streams())))(e.world)
			case 2:
				e.pool.Cut(k)
			case 3, 4, 5, 6, 7, 8, 9:
				e.pool.Connect(k)
			}
		}
		for id, up := range e.up {
			down := e.down[id]
			bytes += len(up.read) + len(down.read)
			for _, d := range []*told{up, down} {
				if d.ended {
					over++
				}
			}
		}
	}
	if bytes < 10000 || over < 300 {
		t.Errorf("only %d bytes were read, and %d ends told", bytes, over)
	}
}

// P30.5 by its own words: from drawn states without resets, cuts and Aways, within so many rounds all is read at the other end, and all ends are told.
func TestP30_5_TurnsThatGoOn(t *testing.T) {
	bytes, over := 0, 0
	for begin := range 400 {
		row := draws.Draws(begin)
		conns := 1 + row.Below(3)
		cfg, front := drawnConfig(&row), drawnConfig(&row)
		cfg.Streams, cfg.Backlog, front.Streams = 12, 6, 6 // none is refused
		e := newEnds(t, newWorld(t, front, conns, 6, cfg), 1+row.Below(9))
		for range 50 + row.Below(200) {
			e.lawful(t, &row, conns)
		}
		before := e.unread(t)
		bound := e.bound(conns)
		rounds := 0
		for ; e.unread(t) != (unread{}) && rounds < bound; rounds++ {
			e.fairRound(t, &row, conns)
		}
		if left := e.unread(t); left != (unread{}) {
			t.Fatalf("P30.5: run %d: behind %d rounds: %+v, before %+v", begin, rounds, left, before)
		}
		if e.refused > 0 {
			t.Fatalf("run %d: %d are refused", begin, e.refused)
		}
		bytes += before.bytes
		over += before.ends
	}
	if bytes < 3000 || over < 200 {
		t.Errorf("only %d bytes, and %d ends", bytes, over)
	}
}

// unread is what was written and not read, and how many ends were closed and not told.
type unread struct{ bytes, ends int }

func (e *ends) unread(t *testing.T) unread {
	t.Helper()
	var all unread
	for id, up := range e.up {
		for _, d := range []*told{up, e.down[id]} {
			all.bytes += len(d.written) - len(d.read)
			if d.closed && !d.ended {
				all.ends++
			}
		}
	}
	return all
}

func (e *ends) bound(conns int) int {
	work := e.front.Work()
	for k := range conns {
		work += e.pool.Link(k).Work()
	}
	return 3*(work+80*(e.r.Held()+len(e.r.Pairs()))) + 3
}

// fairRound: one of P30.5's; each number in it is drawn, from 1 on.
func (e *ends) fairRound(t *testing.T, row *draws.Draws, conns int) {
	t.Helper()
	for _, id := range e.front.End(0).Streams() {
		e.atClient(t, reads(id, 1+row.Below(3)))
	}
	client(steps())(e.world)
	server(steps())(e.world)
	for _, end := range []func(op api.LinkOp) move{client, server} {
		end(sends(1 + row.Below(30)))(e.world)
		end(passes(1 + row.Below(30)))(e.world)
	}
	if err := e.turn(); err != nil {
		t.Fatal(err)
	}
	pools(1)(e.world)
	for k := range conns {
		for _, err := e.pool.Far(k, accepts()); err == nil; {
			_, err = e.pool.Far(k, accepts())
		}
		for _, id := range e.pool.Link(k).End(1).Streams() {
			e.atFar(t, k, reads(id, 1+row.Below(3)))
		}
	}
}

// P30.6: what was answered stays as it was, whatever is done behind it, and what is written over it is seen by nobody.
func TestP30_6_NewMemory(t *testing.T) {
	b := made(t, wide(8), 1, 4, wide(8), 2)
	for range 6 {
		b.all(t, client(opens()))
	}
	b.all(t, fronts(12))
	b.turns(t, 0)
	pairs, refused := b.r.Pairs(), b.r.Refused()
	b.w.Refused()
	kept, keptToo := slices.Clone(pairs), slices.Clone(refused)
	if len(pairs) != 4 || len(refused) != 2 {
		t.Fatalf("%+v, %v", pairs, refused)
	}
	b.all(t, client(resets(1)), client(writes(3, "ab")), fronts(9))
	b.turns(t, 2)
	b.all(t, client(opens()), client(opens()), fronts(2))
	b.turns(t, 0)
	again, more := b.r.Pairs(), b.r.Refused()
	b.w.Refused()
	if !slices.Equal(pairs, kept) || !slices.Equal(refused, keptToo) {
		t.Errorf("what was answered is %+v, %v, and was %+v, %v", pairs, refused, kept, keptToo)
	}
	clear(pairs[:cap(pairs)])
	clear(refused[:cap(refused)])
	if len(again) != 4 || again[0].Front != 3 || again[3].Front != 13 || !slices.Equal(more, []uint32{15}) {
		t.Errorf("%+v, %v", again, more)
	}
	clear(again[:cap(again)])
	clear(more[:cap(more)])
	b.tells(t)
	b.refuses(t)
}

// The greatest size takes room as bytes come, not for the size at once; it holds as much as it says.
func TestP30_2_TheGreatestSize(t *testing.T) {
	cfg := api.Config{Window: 1 << 21, Stage: 1 << 20, Frame: 1 << 16, Streams: 2048, Backlog: 1024, Pings: 1, Out: 1 << 20}
	w := newWorld(t, cfg, 1, 1024, cfg)
	r := newRelay(t, w, api.MaxBuffer)
	before := held()
	for range 1000 {
		client(opens())(w)
	}
	fronts(1000)(w)
	r.Turn()
	if grown := held() - before; len(r.Pairs()) != 1000 || grown > 1<<24 {
		t.Errorf("%d pairs keep %d bytes", len(r.Pairs()), grown)
	}
	text := []byte(letters(0, 1<<20))
	for range 5 {
		w.front.Do(api.LinkOp{Kind: api.DoWrite, ID: 1, Data: text})
		fronts(40)(w)
		r.Turn()
	}
	if p := r.Pairs()[0]; p.Up != 1<<20 || r.Held() != 1<<20 {
		t.Errorf("%+v, Held %d", p, r.Held())
	}
}

// held: the bytes that are in use.
func held() int {
	runtime.GC()
	runtime.GC()
	var m runtime.MemStats
	runtime.ReadMemStats(&m)
	return int(m.HeapAlloc)
}

// What a pair held goes with it, though the relay stays.
func TestP30_1_WhatAPairHeldGoesWithIt(t *testing.T) {
	cfg := api.Config{Window: 1 << 20, Stage: 1 << 20, Frame: 1 << 16, Streams: 16, Backlog: 8, Pings: 1, Out: 1 << 20}
	few := small()
	few.Streams, few.Backlog = 16, 8
	w := newWorld(t, cfg, 1, 8, few)
	r := newRelay(t, w, api.MaxBuffer)
	text := []byte(letters(0, 1<<20))
	fill := func(id uint32) {
		client(opens())(w)
		w.front.Do(api.LinkOp{Kind: api.DoWrite, ID: id, Data: text})
		fronts(18)(w)
		r.Turn()
	}
	before := held()
	for id := uint32(1); id < 16; id += 2 {
		fill(id)
	}
	if n := r.Held(); n != 8*(1<<20-8) || held()-before < n {
		t.Fatalf("Held %d, and %d bytes are in use", n, held()-before)
	}
	for id := uint32(1); id < 16; id += 2 {
		client(resets(id))(w)
	}
	fronts(9)(w)
	r.Turn()
	if grown := held() - before; len(r.Pairs()) != 0 || grown > 1<<18 {
		t.Errorf("%d pairs keep %d bytes", len(r.Pairs()), grown)
	}
	runtime.KeepAlive(r)
	runtime.KeepAlive(text)
}

// However many pairs came and went, what is kept goes with those that are there.
func TestP30_1_WhatIsKeptDoesNotGrow(t *testing.T) {
	const turns = 3000
	w := newWorld(t, wide(4), 1, 4, wide(4))
	r := newRelay(t, w, 64)
	next := uint32(1)
	churn := func() {
		for n := range turns {
			client(opens())(w)
			client(writes(next, "abcdefgh"))(w)
			fronts(3)(w)
			r.Turn()
			pools(2)(w)
			far(0, accepts())(w)
			if n%2 == 0 {
				client(resets(next))(w)
			} else {
				far(0, resets(next))(w)
			}
			fronts(3)(w)
			pools(3)(w)
			r.Turn()
			fronts(3)(w)
			pools(2)(w)
			client(reads(next, 1))(w)
			client(reads(next, 9))(w)
			next += 2
			r.Refused()
		}
	}
	churn()
	before := held()
	churn()
	if grown := held() - before; grown > 1<<17 {
		t.Errorf("%d pairs keep %d bytes", turns, grown)
	}
	runtime.KeepAlive(r)
}

// A thousand pairs, of which all go at one time, and each in its turn.
func TestP30_1_ManyPairs(t *testing.T) {
	cfg := wide(1000)
	b := made(t, cfg, 4, 250, wide(250), 3)
	for range 1000 {
		b.all(t, client(opens()))
	}
	b.all(t, fronts(1000))
	b.turns(t, 0)
	for id := uint32(1); id < 2000; id += 4 {
		b.w.front.Do(writes(id, "ab"))
		b.front.Do(writes(id, "ab"))
	}
	b.all(t, fronts(1000))
	b.turns(t, 1000)
	for id := uint32(1); id < 2000; id += 6 {
		b.all(t, client(resets(id)))
	}
	b.all(t, fronts(1000))
	b.turns(t, 0)
	if n := len(b.r.Pairs()); n != 666 {
		t.Errorf("%d pairs", n)
	}
	b.all(t, client(api.LinkOp{Kind: api.DoCut}))
	b.fails(t, api.ErrCut)
	b.pairs(t)
}

// R9: what is told hangs on nothing but the calls, nor on other relays.
func TestR9_RelaysAtTheSameTime(t *testing.T) {
	told := make([]string, 8)
	var all sync.WaitGroup
	for i := range told {
		all.Go(func() { told[i] = history(draws.Draws(i % 2)) })
	}
	all.Wait()
	for i, text := range told {
		if text != told[i%2] {
			t.Errorf("number %d tells something else", i)
		}
	}
	if told[0] == told[1] {
		t.Error("both rows make the same")
	}
}

// history: what a relay tells while drawn things are done with its front and its pool.
func history(row draws.Draws) string {
	var told strings.Builder
	w := newWorld(&testing.T{}, wide(9), 3, 4, wide(9))
	r, _ := relay.New(w.front, w.pool, 3)
	for n := range 600 {
		told.WriteString(drawnMove(&row, w, 3, 20)(w))
		if n%20 == 0 {
			w.pool.Connect(n / 20 % 3)
		}
		told.WriteString(fmt.Sprintln(r.Turn()))
		told.WriteString(fmt.Sprintln(r.Pairs(), r.Held()))
	}
	told.WriteString(fmt.Sprintln(r.Refused(), math.MaxInt))
	return told.String()
}
