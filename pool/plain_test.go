package pool_test

import (
	"bytes"
	"errors"
	"fmt"
	"slices"
	"testing"

	"culvert/api"
	"culvert/link"
	"culvert/pool"
	"culvert/sentinels"
	"culvert/session"
	"culvert/specimens"
)

// pooled is what a pool and the plain one beside it have in common.
type pooled interface {
	Connect(k int) error
	Cut(k int) error
	Open() (int, error)
	Write(handle int, b []byte) (int, error)
	Read(handle int, n int) ([]byte, error)
	Close(handle int) error
	Reset(handle int) error
	Far(k int, op api.LinkOp) (api.LinkResult, error)
	Near(k int, op api.LinkOp) (api.LinkResult, error)
	Rounds(n int) error
	Conn(k int) (api.ConnView, bool)
	Handle(handle int) (api.Place, bool)
	Link(k int) *link.Link
}

// plain is what the chapter says of a pool, word for word: whether a number is a handle is asked of the tables, each time anew, and the connections have their rounds one behind the other, the last place first.
type plain struct {
	per   int
	cfg   api.Config
	spots []spot
	given []api.Place // of all handles that ever were, from 1 on
}

type spot struct {
	life int
	link *link.Link
}

func (s spot) near() *session.Session { return s.link.End(0) }

// open: the near session's own streams in its table.
func (s spot) open() int {
	n := 0
	for _, id := range s.near().Streams() {
		n += int(id % 2)
	}
	return n
}

func (p *plain) no(k int) bool { return k < 0 || k >= len(p.spots) }

func (p *plain) Conn(k int) (api.ConnView, bool) {
	if p.no(k) {
		return api.ConnView{}, false
	}
	s := p.spots[k]
	if s.life == 0 {
		return api.ConnView{}, true
	}
	here, there := s.near().Away()
	return api.ConnView{Life: s.life, Live: s.near().Err() == nil, Draining: here || there, Open: s.open(), Left: s.near().Left()}, true
}

func (p *plain) Connect(k int) error {
	v, ok := p.Conn(k)
	if !ok {
		return api.ErrRange
	}
	if drained := v.Live && v.Draining && v.Open == 0; v.Live && !drained {
		return api.ErrLive
	}
	l, err := link.New(p.cfg)
	p.spots[k] = spot{v.Life + 1, l}
	return err
}

func (p *plain) Cut(k int) error {
	v, ok := p.Conn(k)
	if !ok {
		return api.ErrRange
	}
	if !v.Live {
		return api.ErrNoConn
	}
	_, err := p.spots[k].link.Do(api.LinkOp{Kind: api.DoCut})
	return err
}

func (p *plain) Open() (int, error) {
	best, fewest := -1, 0
	why := api.ErrNoConn
	for k := range p.spots {
		v, _ := p.Conn(k)
		switch {
		case !v.Live:
		case v.Draining:
			if why == api.ErrNoConn {
				why = api.ErrDraining
			}
		case v.Open >= p.per:
			if why != api.ErrExhausted {
				why = api.ErrLimit
			}
		case v.Left < 1:
			why = api.ErrExhausted
		case best < 0 || v.Open < fewest:
			best, fewest = k, v.Open
		}
	}
	if best < 0 {
		return 0, why
	}
	id, err := p.spots[best].near().Open()
	p.given = append(p.given, api.Place{Conn: best, Life: p.spots[best].life, ID: id})
	return len(p.given), err
}

func (p *plain) Handle(handle int) (api.Place, bool) {
	if handle < 1 || handle > len(p.given) {
		return api.Place{}, false
	}
	at := p.given[handle-1]
	s := p.spots[at.Conn]
	if s.life != at.Life || !slices.Contains(s.near().Streams(), at.ID) {
		return api.Place{}, false
	}
	return at, true
}

// find: the handle's stream, and the session that has it in its table.
func (p *plain) find(handle int) (uint32, *session.Session, error) {
	at, ok := p.Handle(handle)
	if !ok {
		return 0, nil, api.ErrHandle
	}
	return at.ID, p.spots[at.Conn].near(), nil
}

func (p *plain) Write(handle int, b []byte) (int, error) {
	id, near, err := p.find(handle)
	if err != nil {
		return 0, err
	}
	return near.Write(id, b)
}

func (p *plain) Read(handle int, n int) ([]byte, error) {
	id, near, err := p.find(handle)
	if err != nil {
		return nil, err
	}
	return near.Read(id, n)
}

func (p *plain) Close(handle int) error {
	id, near, err := p.find(handle)
	if err != nil {
		return err
	}
	return near.Close(id)
}

func (p *plain) Reset(handle int) error {
	id, near, err := p.find(handle)
	if err != nil {
		return err
	}
	return near.Reset(id)
}

// refuses: what the two calls about an end of a connection have in common.
func (p *plain) refuses(k int, kind api.LinkKind, none []api.LinkKind) error {
	if p.no(k) {
		return api.ErrRange
	}
	if p.spots[k].life == 0 {
		return api.ErrNoConn
	}
	if slices.Contains(none, kind) {
		return api.ErrRange
	}
	return nil
}

func (p *plain) Far(k int, op api.LinkOp) (api.LinkResult, error) {
	if err := p.refuses(k, op.Kind, []api.LinkKind{api.DoCut}); err != nil {
		return api.LinkResult{}, err
	}
	op.End = 1
	return p.spots[k].link.Do(op)
}

func (p *plain) Near(k int, op api.LinkOp) (api.LinkResult, error) {
	none := []api.LinkKind{api.DoOpen, api.DoAccept, api.DoWrite, api.DoRead, api.DoClose, api.DoReset, api.DoCut, api.DoInject}
	if err := p.refuses(k, op.Kind, none); err != nil {
		return api.LinkResult{}, err
	}
	op.End = 0
	return p.spots[k].link.Do(op)
}

func (p *plain) Rounds(n int) error {
	if n < 0 || n > api.MaxRounds {
		return api.ErrRange
	}
	for k := len(p.spots) - 1; k >= 0; k-- {
		if v, _ := p.Conn(k); v.Live {
			for range n {
				p.spots[k].link.Round()
			}
		}
	}
	return nil
}

func (p *plain) Link(k int) *link.Link {
	if p.no(k) {
		return nil
	}
	return p.spots[k].link
}

// call: one call of a pool, with what it answers as layer 32 lays it out.
func call(p pooled, op api.PoolOp) (r api.LinkResult, err error) {
	switch op.Kind {
	case api.PoolConnect:
		err = p.Connect(op.K)
	case api.PoolCut:
		err = p.Cut(op.K)
	case api.PoolOpen:
		r.N, err = p.Open()
	case api.PoolWrite:
		r.N, err = p.Write(op.H, op.Data)
	case api.PoolRead:
		r.Data, err = p.Read(op.H, op.N)
	case api.PoolClose:
		err = p.Close(op.H)
	case api.PoolReset:
		err = p.Reset(op.H)
	case api.PoolFar:
		r, err = p.Far(op.K, op.Link)
	case api.PoolNear:
		r, err = p.Near(op.K, op.Link)
	case api.PoolRounds:
		err = p.Rounds(op.N)
	}
	return r, err
}

// both is a pool beside what the chapter says of it: each call must answer as that does.
type both struct {
	p *pool.Pool
	w *plain // the words
}

// made: a pool that must come about.
func made(t *testing.T, conns, per int, cfg api.Config) *both {
	t.Helper()
	p, err := pool.New(conns, per, cfg)
	if p == nil || err != nil {
		t.Fatalf("New(%d, %d, %+v): %v, %v", conns, per, cfg, p, err)
	}
	return &both{p, &plain{per: per, cfg: cfg, spots: make([]spot, conns)}}
}

// connected: one with a connection at each of its places.
func connected(t *testing.T, conns, per int, cfg api.Config) *both {
	t.Helper()
	b := made(t, conns, per, cfg)
	for k := range conns {
		b.well(t, connects(k))
	}
	return b
}

// fails: how a call has ended, and must have ended.
func fails(t *testing.T, call any, err, want error) {
	t.Helper()
	var v *api.Violation
	if errors.As(want, &v) {
		if !sentinels.Breach(err, v.Stream, v.Why) {
			t.Fatalf("%+v: %v, want a violation on %d, %v", call, err, v.Stream, v.Why)
		}
		return
	}
	if !sentinels.Just(err, want) {
		t.Fatalf("%+v: %v, want %v", call, err, want)
	}
}

// lend: bytes with spare room behind them.
func lend(b []byte) []byte { return append(make([]byte, 0, len(b)+3), b...) }

// unchanged: is what was lent as it was, its spare room too?
func unchanged(lent, b []byte) bool {
	return bytes.Equal(lent, b) && bytes.Equal(lent[len(lent):cap(lent)], make([]byte, cap(lent)-len(lent)))
}

// do: one call. Its bytes are lent with spare room and written over afterwards; so is what it answers.
func (b *both) do(t *testing.T, op api.PoolOp) (api.LinkResult, error) {
	t.Helper()
	lent := op
	lent.Data, lent.Link.Data = lend(op.Data), lend(op.Link.Data)
	got, err := call(b.p, lent)
	if !unchanged(lent.Data, op.Data) || !unchanged(lent.Link.Data, op.Link.Data) {
		t.Fatalf("%+v has changed what it was handed", op)
	}
	specimens.Spoil(lent.Data)
	specimens.Spoil(lent.Link.Data)
	want, why := call(b.w, op)
	fails(t, op, err, why)
	same(t, op, got, want)
	specimens.Spoil(got.Data)
	for i := range got.IDs[:cap(got.IDs)] {
		got.IDs[:cap(got.IDs)][i]++
	}
	return want, why
}

func same(t *testing.T, op api.PoolOp, got, want api.LinkResult) {
	t.Helper()
	if got.ID != want.ID || got.N != want.N || !bytes.Equal(got.Data, want.Data) || !slices.Equal(got.IDs, want.IDs) {
		t.Fatalf("%+v: %+v, want %+v", op, got, want)
	}
}

// seen: all that a link lets be seen, as a text.
func seen(l *link.Link) string {
	if l == nil {
		return "none"
	}
	var all []any
	for e := range 2 {
		s := l.End(e)
		here, there := s.Away()
		all = append(all, l.UnderWay(e), s.Err(), here, there, s.Left(), s.Streams(), s.Waiting(), s.Tickets(), s.Pinged(), s.Pending(), s.Held())
		for _, id := range slices.Concat(s.Streams(), s.Waiting()) {
			v, _ := s.View(id)
			all = append(all, v)
		}
	}
	return fmt.Sprint(all...)
}

// tells: all that can be looked at, as the chapter says; looking changes nothing, or the next call would tell.
func (b *both) tells(t *testing.T) {
	t.Helper()
	for k := -1; k <= len(b.w.spots); k++ {
		got, ok := b.p.Conn(k)
		if want, there := b.w.Conn(k); got != want || ok != there {
			t.Fatalf("Conn(%d): %+v, %v, want %+v, %v", k, got, ok, want, there)
		}
		if got, want := seen(b.p.Link(k)), seen(b.w.Link(k)); got != want {
			t.Fatalf("Link(%d):\n%s, want\n%s", k, got, want)
		}
	}
	places := map[api.Place]int{}
	for h := -1; h <= len(b.w.given)+2; h++ {
		at, ok := b.p.Handle(h)
		if want, there := b.w.Handle(h); at != want || ok != there {
			t.Fatalf("Handle(%d): %v, %v, want %v, %v", h, at, ok, want, there)
		}
		if other := places[at]; ok && other != 0 {
			t.Fatalf("P23.3: %v is the place of the handles %d and %d", at, other, h)
		}
		places[at] = h
	}
}

// well: a call that must not fail.
func (b *both) well(t *testing.T, op api.PoolOp) api.LinkResult {
	t.Helper()
	r, err := b.do(t, op)
	if err != nil {
		t.Fatalf("%+v: %v", op, err)
	}
	b.tells(t)
	return r
}

// all: calls that must not fail.
func (b *both) all(t *testing.T, ops ...api.PoolOp) {
	t.Helper()
	for _, op := range ops {
		b.well(t, op)
	}
}

// refuses: a call that must fail with this.
func (b *both) refuses(t *testing.T, op api.PoolOp, want error) {
	t.Helper()
	r, err := b.do(t, op)
	fails(t, op, err, want)
	same(t, op, r, api.LinkResult{})
	b.tells(t)
}

// counts: a call that must answer this number.
func (b *both) counts(t *testing.T, op api.PoolOp, n int) {
	t.Helper()
	if r := b.well(t, op); int(r.ID)+r.N != n {
		t.Fatalf("%+v: %+v, want %d", op, r, n)
	}
}

// gives: a Read, of either end, that must answer these bytes.
func (b *both) gives(t *testing.T, op api.PoolOp, want string) {
	t.Helper()
	if r := b.well(t, op); string(r.Data) != want {
		t.Fatalf("%+v: %q, want %q", op, r.Data, want)
	}
}

// opens: an Open that must answer this handle, at this place.
func (b *both) opens(t *testing.T, handle int, at api.Place) {
	t.Helper()
	b.counts(t, opens(), handle)
	b.handle(t, handle, at)
}

// handle: where the handle must stand; the zero place, if it must be none.
func (b *both) handle(t *testing.T, handle int, at api.Place) {
	t.Helper()
	if got, ok := b.p.Handle(handle); got != at || ok != (at != api.Place{}) {
		t.Fatalf("Handle(%d): %v, %v, want %v", handle, got, ok, at)
	}
}

// conn: what must be seen of a place.
func (b *both) conn(t *testing.T, k int, want api.ConnView) {
	t.Helper()
	if got, ok := b.p.Conn(k); got != want || !ok {
		t.Fatalf("Conn(%d): %+v, %v, want %+v", k, got, ok, want)
	}
}

// The calls.

func connects(k int) api.PoolOp { return api.PoolOp{Kind: api.PoolConnect, K: k} }

func cuts(k int) api.PoolOp { return api.PoolOp{Kind: api.PoolCut, K: k} }

func opens() api.PoolOp { return api.PoolOp{Kind: api.PoolOpen} }

func writes(h int, p string) api.PoolOp {
	return api.PoolOp{Kind: api.PoolWrite, H: h, Data: []byte(p)}
}

func reads(h, n int) api.PoolOp { return api.PoolOp{Kind: api.PoolRead, H: h, N: n} }

func closes(h int) api.PoolOp { return api.PoolOp{Kind: api.PoolClose, H: h} }

func resets(h int) api.PoolOp { return api.PoolOp{Kind: api.PoolReset, H: h} }

func rounds(n int) api.PoolOp { return api.PoolOp{Kind: api.PoolRounds, N: n} }

func far(k int, op api.LinkOp) api.PoolOp {
	op.End = k - 7 // isn't looked at
	return api.PoolOp{Kind: api.PoolFar, K: k, Link: op}
}

func near(k int, op api.LinkOp) api.PoolOp {
	op.End = 9 - k // isn't looked at
	return api.PoolOp{Kind: api.PoolNear, K: k, Link: op}
}

func bare(kind api.LinkKind) api.LinkOp { return api.LinkOp{Kind: kind} }

func many(kind api.LinkKind, n int) api.LinkOp { return api.LinkOp{Kind: kind, N: n} }

func farAccepts(k int) api.PoolOp { return far(k, bare(api.DoAccept)) }

func farWrites(k int, id uint32, p string) api.PoolOp {
	return far(k, api.LinkOp{Kind: api.DoWrite, ID: id, Data: []byte(p)})
}

func farReads(k int, id uint32, n int) api.PoolOp {
	return far(k, api.LinkOp{Kind: api.DoRead, ID: id, N: n})
}

func farCloses(k int, id uint32) api.PoolOp {
	return far(k, api.LinkOp{Kind: api.DoClose, ID: id})
}

func farResets(k int, id uint32) api.PoolOp {
	return far(k, api.LinkOp{Kind: api.DoReset, ID: id})
}

func injects(k int, frames ...api.Frame) api.PoolOp {
	return far(k, api.LinkOp{Kind: api.DoInject, Data: specimens.Bytes(frames...)})
}
