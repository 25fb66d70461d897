package relay_test

import (
	"errors"
	"fmt"
	"maps"
	"math"
	"slices"
	"testing"

	"culvert/api"
	"culvert/link"
	"culvert/pool"
	"culvert/relay"
	"culvert/sentinels"
	"culvert/specimens"
)

// world is a front and a pool: all that a relay touches.
type world struct {
	front *link.Link
	pool  *pool.Pool
	most  int // no handle is greater
}

// plain is what the chapter says of a relay, word for word, with the two ways written out one by one.
type plain struct {
	*world
	size    int
	pairs   map[uint32]*couple // by the front stream's id
	refused []uint32
	broken  map[uint32]int // the handles of those that broke in the last Turn, by their front streams
}

type couple struct {
	handle   int
	up, down way
}

type way struct {
	held        []byte
	ended, done bool
}

func (w *plain) Turn() (int, error) {
	w.broken = map[uint32]int{}
	ids := func() []uint32 { return slices.Sorted(maps.Keys(w.pairs)) }
	if err := w.front.End(1).Err(); err != nil {
		for _, id := range ids() {
			w.pool.Reset(w.pairs[id].handle)
		}
		clear(w.pairs)
		return 0, err
	}
	for {
		r, err := w.server(api.LinkOp{Kind: api.DoAccept})
		if err != nil {
			break
		}
		handle, err := w.pool.Open()
		if err == nil {
			w.pairs[r.ID] = &couple{handle: handle}
			continue
		}
		w.server(api.LinkOp{Kind: api.DoReset, ID: r.ID})
		w.refused = append(w.refused, r.ID)
	}
	sum := 0
	for _, id := range ids() {
		c := w.pairs[id]
		n, whole := w.carryUp(id, c)
		sum += n
		if whole {
			n, whole = w.carryDown(id, c)
			sum += n
		}
		if !whole {
			w.broken[id] = c.handle
			w.pool.Reset(c.handle)
			w.server(api.LinkOp{Kind: api.DoReset, ID: id})
		}
		if !whole || c.up.done && c.down.done {
			delete(w.pairs, id)
		}
	}
	return sum, nil
}

func (w *plain) server(op api.LinkOp) (api.LinkResult, error) {
	op.End = 1
	return w.front.Do(op)
}

// carryUp: how many bytes were taken, and is the pair whole?
func (w *plain) carryUp(id uint32, c *couple) (int, bool) {
	taken := 0
	if !(c.up.ended && c.down.done) {
		n := w.size - len(c.up.held)
		if c.up.ended {
			n = 0
		}
		r, err := w.server(api.LinkOp{Kind: api.DoRead, ID: id, N: n})
		c.up.held = append(c.up.held, r.Data...)
		if errors.Is(err, api.ErrEOF) {
			c.up.ended = true
		} else if err != nil {
			return 0, false
		}
	}
	if len(c.up.held) > 0 {
		n, err := w.pool.Write(c.handle, c.up.held)
		if err != nil {
			return 0, false
		}
		c.up.held = c.up.held[n:]
		taken = n
	}
	if c.up.ended && len(c.up.held) == 0 && !c.up.done {
		if w.pool.Close(c.handle) != nil {
			return taken, false
		}
		c.up.done = true
	}
	return taken, true
}

// carryDown: how many bytes were taken, and is the pair whole?
func (w *plain) carryDown(id uint32, c *couple) (int, bool) {
	taken := 0
	if !(c.down.ended && c.up.done) {
		n := w.size - len(c.down.held)
		if c.down.ended {
			n = 0
		}
		b, err := w.pool.Read(c.handle, n)
		c.down.held = append(c.down.held, b...)
		if errors.Is(err, api.ErrEOF) {
			c.down.ended = true
		} else if err != nil {
			return 0, false
		}
	}
	if len(c.down.held) > 0 {
		r, err := w.server(api.LinkOp{Kind: api.DoWrite, ID: id, Data: c.down.held})
		if err != nil {
			return 0, false
		}
		c.down.held = c.down.held[r.N:]
		taken = r.N
	}
	if c.down.ended && len(c.down.held) == 0 && !c.down.done {
		if _, err := w.server(api.LinkOp{Kind: api.DoClose, ID: id}); err != nil {
			return taken, false
		}
		c.down.done = true
	}
	return taken, true
}

func (w *plain) Pairs() []api.Pair {
	var all []api.Pair
	for _, id := range slices.Sorted(maps.Keys(w.pairs)) {
		c := w.pairs[id]
		all = append(all, api.Pair{Front: id, Handle: c.handle, Up: len(c.up.held), Down: len(c.down.held), UpDone: c.up.done, DownDone: c.down.done})
	}
	return all
}

func (w *plain) Refused() []uint32 {
	all := w.refused
	w.refused = nil
	return all
}

// both is a relay, and beside it the chapter's words over a twin of its front and its pool, to which all the same is done.
type both struct {
	*world
	r *relay.Relay
	w *plain
}

// small is the configuration of the chapter's examples.
func small() api.Config {
	return api.Config{Window: 4, Stage: 8, Frame: 3, Streams: 4, Backlog: 2, Pings: 1, Out: 64}
}

// wide: the small configuration, with room for so many streams in each direction.
func wide(streams int) api.Config {
	cfg := small()
	cfg.Streams, cfg.Backlog = 2*streams, streams
	return cfg
}

// newWorld: one that must come about, with a connection at each place.
func newWorld(t *testing.T, front api.Config, conns, per int, cfg api.Config) *world {
	t.Helper()
	l, err := link.New(front)
	if l == nil || err != nil {
		t.Fatalf("link.New(%+v): %v, %v", front, l, err)
	}
	p, err := pool.New(conns, per, cfg)
	if p == nil || err != nil {
		t.Fatalf("pool.New(%d, %d, %+v): %v, %v", conns, per, cfg, p, err)
	}
	for k := range conns {
		p.Connect(k)
	}
	return &world{front: l, pool: p}
}

// newRelay: one that must come about.
func newRelay(t *testing.T, w *world, size int) *relay.Relay {
	t.Helper()
	r, err := relay.New(w.front, w.pool, size)
	if r == nil || err != nil {
		t.Fatalf("New(%d): %v, %v", size, r, err)
	}
	return r
}

// made: a relay of this size between a new front and a new pool.
func made(t *testing.T, front api.Config, conns, per int, cfg api.Config, size int) *both {
	t.Helper()
	first, second := newWorld(t, front, conns, per, cfg), newWorld(t, front, conns, per, cfg)
	b := &both{first, newRelay(t, first, size), &plain{world: second, size: size, pairs: map[uint32]*couple{}}}
	b.tells(t)
	return b
}

// turn: one Turn, which must answer as the words do.
func (b *both) turn(t *testing.T) (int, error) {
	t.Helper()
	want, wantErr := b.w.Turn()
	got, err := b.r.Turn()
	if got != want || !alike(err, wantErr) {
		t.Fatalf("Turn: %d, %v, want %d, %v", got, err, want, wantErr)
	}
	return got, err
}

// alike: is the one error the same as the other, whose sentinels are known?
func alike(err, want error) bool {
	var v *api.Violation
	if errors.As(want, &v) {
		return sentinels.Breach(err, v.Stream, v.Why)
	}
	for _, one := range []error{api.ErrCut, api.ErrPeer} {
		if errors.Is(want, one) {
			return sentinels.Just(err, one)
		}
	}
	return err == nil && want == nil
}

// turns: a Turn in which so many bytes must go on; all else is looked at too.
func (b *both) turns(t *testing.T, want int) {
	t.Helper()
	if n, err := b.turn(t); n != want || err != nil {
		t.Fatalf("Turn: %d, %v, want %d", n, err, want)
	}
	b.tells(t)
}

// fails: a Turn that must fail so.
func (b *both) fails(t *testing.T, want error) {
	t.Helper()
	if n, err := b.turn(t); n != 0 || !errors.Is(err, want) {
		t.Fatalf("Turn: %d, %v, want %v", n, err, want)
	}
	b.tells(t)
}

// pairs: what Pairs must answer.
func (b *both) pairs(t *testing.T, want ...api.Pair) {
	t.Helper()
	if got := b.r.Pairs(); !slices.Equal(got, want) {
		t.Fatalf("Pairs: %+v, want %+v", got, want)
	}
}

// refuses: what Refused must answer.
func (b *both) refuses(t *testing.T, want ...uint32) {
	t.Helper()
	got := b.r.Refused()
	if !slices.Equal(got, want) || !slices.Equal(b.w.Refused(), want) {
		t.Fatalf("Refused: %v, want %v", got, want)
	}
	clear(got[:cap(got)])
}

// tells: all that can be looked at is as the words say, at the front and the pool too: so a Turn has done nothing to them but what the words do. The list that is answered is written over.
func (b *both) tells(t *testing.T) {
	t.Helper()
	got, want := b.r.Pairs(), b.w.Pairs()
	if !slices.Equal(got, want) {
		t.Fatalf("Pairs: %+v, want %+v", got, want)
	}
	sum := 0
	handles := map[int]int{}
	for i, p := range got {
		sum += p.Up + p.Down
		handles[p.Handle]++
		if p.Up > b.w.size || p.Down > b.w.size || i > 0 && p.Front <= got[i-1].Front {
			t.Fatalf("P30.2: Pairs: %+v", got)
		}
	}
	if held := b.r.Held(); held != sum || len(handles) != len(got) {
		t.Fatalf("P30.2: Held %d of %+v", held, got)
	}
	got = got[:cap(got)]
	for i := range got {
		got[i] = api.Pair{Front: 7, Handle: -7, Up: 7, Down: 7}
	}
	if got, want := b.world.seen(), b.w.seen(); got != want {
		t.Fatalf("front and pool:\n%s, want\n%s", got, want)
	}
}

// all: these moves at both worlds, which must answer alike.
func (b *both) all(t *testing.T, moves ...move) {
	t.Helper()
	for i, m := range moves {
		if got, want := m(b.world), m(b.w.world); got != want {
			t.Fatalf("move %d answers %s, and at the twin %s", i, got, want)
		}
	}
}

// seen: all that a world lets be seen, as a text.
func (w *world) seen() string {
	all := []any{seenEnd(w.front, 0), seenEnd(w.front, 1)}
	for k := 0; ; k++ {
		v, ok := w.pool.Conn(k)
		if !ok {
			break
		}
		all = append(all, k, v)
		if l := w.pool.Link(k); l != nil {
			all = append(all, seenEnd(l, 0), seenEnd(l, 1))
		}
	}
	for handle := 1; handle <= w.most+5; handle++ {
		if at, ok := w.pool.Handle(handle); ok {
			all = append(all, handle, at)
			w.most = max(w.most, handle)
		}
	}
	return fmt.Sprint(all...)
}

func seenEnd(l *link.Link, e int) string {
	s := l.End(e)
	here, there := s.Away()
	all := []any{l.UnderWay(e), s.Err(), here, there, s.Left(), s.Streams(), s.Waiting(), s.Tickets(), s.Pending(), s.Held()}
	for _, id := range slices.Concat(s.Streams(), s.Waiting()) {
		v, _ := s.View(id)
		all = append(all, v)
	}
	return fmt.Sprintln(all...)
}

// move is something that is done with a front and a pool; it tells what came of it.
type move func(w *world) string

// client, server: an operation of that end of the front.

func client(op api.LinkOp) move {
	return func(w *world) string {
		op.End = 0
		return fmt.Sprint(w.front.Do(op))
	}
}

func server(op api.LinkOp) move {
	return func(w *world) string {
		op.End = 1
		return fmt.Sprint(w.front.Do(op))
	}
}

// far, near: an operation of that end of a pool's connection.

func far(k int, op api.LinkOp) move {
	return func(w *world) string { return fmt.Sprint(w.pool.Far(k, op)) }
}

func near(k int, op api.LinkOp) move {
	return func(w *world) string { return fmt.Sprint(w.pool.Near(k, op)) }
}

// The operations, as they are handed to an end.

func opens() api.LinkOp           { return api.LinkOp{Kind: api.DoOpen} }
func accepts() api.LinkOp         { return api.LinkOp{Kind: api.DoAccept} }
func closes(id uint32) api.LinkOp { return api.LinkOp{Kind: api.DoClose, ID: id} }
func resets(id uint32) api.LinkOp { return api.LinkOp{Kind: api.DoReset, ID: id} }
func leaves() api.LinkOp          { return api.LinkOp{Kind: api.DoAway} }
func steps() api.LinkOp           { return api.LinkOp{Kind: api.DoStep} }
func sends(n int) api.LinkOp      { return api.LinkOp{Kind: api.DoSend, N: n} }
func passes(n int) api.LinkOp     { return api.LinkOp{Kind: api.DoPass, N: n} }

func writes(id uint32, text string) api.LinkOp {
	return api.LinkOp{Kind: api.DoWrite, ID: id, Data: []byte(text)}
}

func reads(id uint32, n int) api.LinkOp { return api.LinkOp{Kind: api.DoRead, ID: id, N: n} }

func injects(frames ...api.Frame) api.LinkOp {
	return api.LinkOp{Kind: api.DoInject, Data: specimens.Bytes(frames...)}
}

// fronts, pools: so many rounds there.

func fronts(n int) move {
	return func(w *world) string {
		told := ""
		for range n {
			told += fmt.Sprint(w.front.Round())
		}
		return told
	}
}

func pools(n int) move { return func(w *world) string { return fmt.Sprint(w.pool.Rounds(n)) } }

// What the pool's user may do beside the relay.

func connects(k int) move {
	return func(w *world) string { return fmt.Sprint(w.pool.Connect(k)) }
}

func cuts(k int) move { return func(w *world) string { return fmt.Sprint(w.pool.Cut(k)) } }

func taps() move { return func(w *world) string { return fmt.Sprint(w.pool.Open()) } }

func drops(handle int) move {
	return func(w *world) string { return fmt.Sprint(w.pool.Reset(handle)) }
}

func shuts(handle int) move {
	return func(w *world) string { return fmt.Sprint(w.pool.Close(handle)) }
}

func puts(handle int, text string) move {
	return func(w *world) string { return fmt.Sprint(w.pool.Write(handle, []byte(text))) }
}

func gets(handle, n int) move {
	return func(w *world) string { return fmt.Sprint(w.pool.Read(handle, n)) }
}

// brings: an end lays out a frame, and all its bytes go over.
func brings(end func(op api.LinkOp) move) move {
	return func(w *world) string {
		told := ""
		for _, op := range []api.LinkOp{steps(), sends(math.MaxInt), passes(math.MaxInt)} {
			told += end(op)(w)
		}
		return told
	}
}

// at: the end of the connection that stands at a place.
func at(end func(k int, op api.LinkOp) move, k int) func(op api.LinkOp) move {
	return func(op api.LinkOp) move { return end(k, op) }
}
