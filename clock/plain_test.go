package clock_test

import (
	"fmt"
	"math"
	"slices"
	"testing"

	"culvert/api"
	"culvert/clock"
	"culvert/link"
	"culvert/pool"
	"culvert/sentinels"
	"culvert/specimens"
)

// plain is what the chapter says of a keeper, word for word: each place has a record or none, and is looked at from 0 on.
type plain struct {
	p               *pool.Pool
	every, patience int
	now             int
	records         []*note // by place
}

type note struct {
	life, due int
	waits     []wait
}

type wait struct {
	token uint32
	at    int
}

func newPlain(p *pool.Pool, conns, every, patience int) *plain {
	w := &plain{p: p, every: every, patience: patience, records: make([]*note, conns)}
	for c := range w.records {
		if v, _ := p.Conn(c); v.Live {
			w.records[c] = &note{life: v.Life, due: every}
		}
	}
	return w
}

func (w *plain) Tick(n int) ([]api.Mishap, error) {
	if n < 1 || n > api.MaxTime || w.now+n > api.MaxTime {
		return nil, api.ErrRange
	}
	w.now += n
	var mishaps []api.Mishap
	for c, r := range w.records {
		v, _ := w.p.Conn(c)
		switch {
		case !v.Live:
			w.records[c] = nil
		case r == nil || r.life != v.Life:
			w.records[c] = &note{life: v.Life, due: w.now + w.every}
		default:
			if w.look(c, r) {
				w.records[c] = nil
				mishaps = append(mishaps, api.Mishap{Conn: c, Life: v.Life})
			}
		}
	}
	return mishaps, nil
}

// look: the third of the chapter's cases; was the connection cut?
func (w *plain) look(c int, r *note) bool {
	told, _ := w.p.Near(c, api.LinkOp{Kind: api.DoPongs})
	r.waits = slices.DeleteFunc(r.waits, func(one wait) bool { return slices.Contains(told.IDs, one.token) })
	if len(r.waits) > 0 && w.now-r.waits[0].at >= w.patience {
		w.p.Cut(c)
		return true
	}
	if r.due <= w.now {
		if told, err := w.p.Near(c, api.LinkOp{Kind: api.DoPing}); err == nil {
			r.waits = append(r.waits, wait{told.ID, w.now})
		}
		r.due = w.now + w.every
	}
	return false
}

func (w *plain) record(conn int) *note {
	if conn < 0 || conn >= len(w.records) {
		return nil
	}
	return w.records[conn]
}

func (w *plain) Due(conn int) (int, bool) {
	if r := w.record(conn); r != nil {
		return r.due, true
	}
	return 0, false
}

func (w *plain) Late(conn int) (int, bool) {
	if r := w.record(conn); r != nil && len(r.waits) > 0 {
		return r.waits[0].at, true
	}
	return 0, false
}

// both is a pool with a keeper, and beside it a twin, to which all the same is done, with the chapter's words as its keeper.
type both struct {
	p, twin *pool.Pool
	k       *clock.Keeper
	w       *plain
}

// small is the configuration of the chapter's examples.
func small() api.Config {
	return api.Config{Window: 4, Stage: 8, Frame: 3, Streams: 4, Backlog: 2, Pings: 1, Out: 64}
}

// pings: the small configuration, with so many pings.
func pings(most int) api.Config {
	cfg := small()
	cfg.Pings = most
	return cfg
}

// newPool: one that must come about.
func newPool(t *testing.T, conns int, cfg api.Config) *pool.Pool {
	t.Helper()
	p, err := pool.New(conns, 1, cfg)
	if p == nil || err != nil {
		t.Fatalf("pool.New(%d, 1, %+v): %v, %v", conns, cfg, p, err)
	}
	return p
}

// newKeeper: one that must come about.
func newKeeper(t *testing.T, p *pool.Pool, every, patience int) *clock.Keeper {
	t.Helper()
	k, err := clock.New(p, every, patience)
	if k == nil || err != nil {
		t.Fatalf("New(%d, %d): %v, %v", every, patience, k, err)
	}
	return k
}

// made: a pool with so many places to which this was done ahead of its keeper.
func made(t *testing.T, conns int, cfg api.Config, every, patience int, ahead ...move) *both {
	t.Helper()
	b := &both{p: newPool(t, conns, cfg), twin: newPool(t, conns, cfg)}
	b.all(t, ahead...)
	b.w = newPlain(b.twin, conns, every, patience)
	b.k = newKeeper(t, b.p, every, patience)
	b.tells(t)
	return b
}

// connected: a pool with a connection at each of its places, all of which are kept.
func connected(t *testing.T, conns int, cfg api.Config, every, patience int) *both {
	t.Helper()
	var ahead []move
	for c := range conns {
		ahead = append(ahead, connects(c))
	}
	return made(t, conns, cfg, every, patience, ahead...)
}

// tick: one Tick, which must answer as the words do; what it answers is written over afterwards.
func (b *both) tick(t *testing.T, n int) ([]api.Mishap, error) {
	t.Helper()
	want, wantErr := b.w.Tick(n)
	got, err := b.k.Tick(n)
	if !slices.Equal(got, want) || !sentinels.Just(err, wantErr) {
		t.Fatalf("Tick(%d), then at %d: %v, %v, want %v, %v", n, b.w.now, got, err, want, wantErr)
	}
	got = got[:cap(got)]
	for i := range got {
		got[i] = api.Mishap{Conn: -7, Life: -7}
	}
	return want, wantErr
}

// ticks: a Tick that must cut just these.
func (b *both) ticks(t *testing.T, n int, want ...api.Mishap) {
	t.Helper()
	if got, err := b.tick(t, n); !slices.Equal(got, want) || err != nil {
		t.Fatalf("Tick(%d), then at %d: %v, %v, want %v", n, b.w.now, got, err, want)
	}
	b.tells(t)
}

// tells: all that can be looked at is as the words say, at the pools too: so a Tick has done nothing to them but what the words do.
func (b *both) tells(t *testing.T) {
	t.Helper()
	if got := b.k.Now(); got != b.w.now {
		t.Fatalf("Now: %d, want %d", got, b.w.now)
	}
	for c := -1; c <= len(b.w.records); c++ {
		due, there := b.k.Due(c)
		if want, ok := b.w.Due(c); due != want || there != ok {
			t.Fatalf("Due(%d) at %d: %d, %v, want %d, %v", c, b.w.now, due, there, want, ok)
		}
		late, waits := b.k.Late(c)
		if want, ok := b.w.Late(c); late != want || waits != ok {
			t.Fatalf("Late(%d) at %d: %d, %v, want %d, %v", c, b.w.now, late, waits, want, ok)
		}
		if got, want := seen(b.p, c), seen(b.twin, c); got != want {
			t.Fatalf("the connection at %d, at %d:\n%s, want\n%s", c, b.w.now, got, want)
		}
	}
}

// due: which time must be told; one below 0, if no record may be kept.
func (b *both) due(t *testing.T, conn, want int) {
	t.Helper()
	told(t, "Due", b.k.Due, conn, want)
}

// late: which time must be told; one below 0, if no ping may wait.
func (b *both) late(t *testing.T, conn, want int) {
	t.Helper()
	told(t, "Late", b.k.Late, conn, want)
}

func told(t *testing.T, what string, call func(int) (int, bool), conn, want int) {
	t.Helper()
	if got, ok := call(conn); got != max(want, 0) || ok != (want >= 0) {
		t.Fatalf("%s(%d): %d, %v, want %d", what, conn, got, ok, want)
	}
}

// all: these moves at both pools, which must answer alike.
func (b *both) all(t *testing.T, moves ...move) {
	t.Helper()
	for _, m := range moves {
		if got, want := m(b.p), m(b.twin); got != want {
			t.Fatalf("a move answers %s, and at the twin %s", got, want)
		}
	}
}

// seen: all that a connection lets be seen, as a text.
func seen(p *pool.Pool, conn int) string {
	v, ok := p.Conn(conn)
	all := []any{v, ok}
	if l := p.Link(conn); l != nil {
		all = append(all, seenEnd(l, 0), seenEnd(l, 1))
	}
	return fmt.Sprint(all...)
}

func seenEnd(l *link.Link, e int) string {
	s := l.End(e)
	here, there := s.Away()
	all := []any{l.UnderWay(e), s.Err(), here, there, s.Left(), s.Streams(), s.Waiting(), s.Tickets(), s.Pinged(), s.Pending(), s.Held()}
	for _, id := range slices.Concat(s.Streams(), s.Waiting()) {
		v, _ := s.View(id)
		all = append(all, v)
	}
	return fmt.Sprintln(all...)
}

// move is something that is done with a pool; it tells what came of it.
type move func(p *pool.Pool) string

func connects(conn int) move {
	return func(p *pool.Pool) string { return fmt.Sprint(p.Connect(conn)) }
}

func cuts(conn int) move { return func(p *pool.Pool) string { return fmt.Sprint(p.Cut(conn)) } }

func opens() move { return func(p *pool.Pool) string { return fmt.Sprint(p.Open()) } }

func rounds(n int) move { return func(p *pool.Pool) string { return fmt.Sprint(p.Rounds(n)) } }

// near, far: an operation of that end.

func near(conn int, kind api.LinkKind) move {
	return func(p *pool.Pool) string {
		return fmt.Sprint(p.Near(conn, api.LinkOp{Kind: kind, N: math.MaxInt}))
	}
}

func far(conn int, kind api.LinkKind) move {
	return func(p *pool.Pool) string {
		return fmt.Sprint(p.Far(conn, api.LinkOp{Kind: kind, N: math.MaxInt}))
	}
}

// injects: these frames come to the far end, by nobody.
func injects(conn int, frames ...api.Frame) move {
	return func(p *pool.Pool) string {
		return fmt.Sprint(p.Far(conn, api.LinkOp{Kind: api.DoInject, Data: specimens.Bytes(frames...)}))
	}
}

// brings: an end lays out a frame, and all its bytes go over.
func brings(end func(conn int, kind api.LinkKind) move, conn int) move {
	return func(p *pool.Pool) string {
		told := ""
		for _, kind := range []api.LinkKind{api.DoStep, api.DoSend, api.DoPass} {
			told += end(conn, kind)(p)
		}
		return told
	}
}

// carries: all that waits at the connection, and what comes of it, goes over.
func carries(conn int) move {
	return func(p *pool.Pool) string {
		told := ""
		for before := ""; before != seen(p, conn); {
			before = seen(p, conn)
			told += brings(near, conn)(p) + brings(far, conn)(p)
		}
		return told
	}
}

// asks: a Ping frame.
func asks(token uint32) api.Frame {
	return specimens.Bare(api.TypePing, api.FlagSYN, 0, token)
}
