package stream_test

import (
	"testing"

	"culvert/api"
	"culvert/sentinels"
	"culvert/stream"
)

// plain is what the chapter says that a stream keeps, word for word.
type plain struct {
	id               uint32
	cfg              api.Config
	mine             bool
	accepted         bool
	staged           string
	closing          bool
	lastOut          bool
	credit           int
	unread           string
	left, owed       int
	lastIn, told     bool
	wasReset, wasCut bool
}

func newPlain(id uint32, cfg api.Config, mine bool) plain {
	return plain{id: id, cfg: cfg, mine: mine, credit: cfg.Window, left: cfg.Window}
}

func (p *plain) write(b string) (int, error) {
	if err := p.shut(); err != nil {
		return 0, err
	}
	n := min(len(b), p.cfg.Stage-len(p.staged))
	p.staged += b[:n]
	return n, nil
}

func (p *plain) close() error {
	if err := p.shut(); err != nil {
		return err
	}
	p.closing = true
	return nil
}

func (p *plain) shut() error {
	switch {
	case p.wasReset:
		return api.ErrReset
	case p.wasCut:
		return api.ErrCut
	case p.closing:
		return api.ErrClosed
	}
	return nil
}

func (p *plain) accept() error {
	switch {
	case p.wasReset:
		return api.ErrReset
	case p.wasCut:
		return api.ErrCut
	case p.accepted:
		return api.ErrState
	}
	p.accepted = true
	return nil
}

func (p *plain) read(n int) (string, uint32, error) {
	switch {
	case n < 0:
		return "", 0, api.ErrRange
	case p.wasReset:
		return "", 0, api.ErrReset
	case n == 0:
		return "", 0, nil
	case p.unread == "" && p.lastIn:
		p.told = true
		return "", 0, api.ErrEOF
	case p.unread == "" && p.wasCut:
		return "", 0, api.ErrCut
	}
	n = min(n, len(p.unread))
	gave := p.unread[:n]
	p.unread = p.unread[n:]
	if p.lastIn || p.wasCut || n == 0 {
		return gave, 0, nil
	}
	p.owed += n
	if p.owed < p.cfg.Window-p.cfg.Window/2 {
		return gave, 0, nil
	}
	delta := p.owed
	p.left += delta
	p.owed = 0
	return gave, uint32(delta), nil
}

func (p *plain) ready() bool {
	if p.wasReset || p.wasCut || !(p.mine || p.accepted) || p.lastOut {
		return false
	}
	return p.staged != "" && p.credit != 0 || p.closing && p.staged == ""
}

func (p *plain) frame() (api.Header, string, bool) {
	if !p.ready() {
		return api.Header{}, "", false
	}
	k := min(len(p.staged), p.credit, p.cfg.Frame)
	bore := p.staged[:k]
	p.staged = p.staged[k:]
	p.credit -= k
	head := api.Header{Version: 0, Type: api.TypeData, Stream: p.id, Length: uint32(k)}
	if p.closing && p.staged == "" {
		head.Flags = api.FlagFIN
		p.lastOut = true
	}
	return head, bore, true
}

func (p *plain) arrive(b string, fin bool) error {
	switch {
	case p.wasReset || p.wasCut || p.lastIn:
		return nil
	case len(b) > p.left:
		return api.ErrWindow
	}
	p.unread += b
	p.left -= len(b)
	p.finIn(fin)
	return nil
}

func (p *plain) grant(delta uint32, fin bool) error {
	if p.wasReset || p.wasCut {
		return nil
	}
	if !p.lastOut {
		if p.credit+int(delta) > p.cfg.Window {
			return api.ErrCredit
		}
		p.credit += int(delta)
	}
	p.finIn(fin && !p.lastIn)
	return nil
}

func (p *plain) finIn(fin bool) {
	if fin {
		p.lastIn, p.left, p.owed = true, 0, 0
	}
}

func (p *plain) reset() {
	p.wasReset, p.staged, p.unread = true, "", ""
}

func (p *plain) cut() {
	if !p.wasReset {
		p.wasCut, p.staged = true, ""
	}
}

func (p *plain) quiet() bool { return !p.wasReset && p.lastOut && p.lastIn }

func (p *plain) done() bool {
	switch {
	case p.wasReset:
		return true
	case p.wasCut:
		return p.told
	}
	return p.quiet() && p.told
}

func (p *plain) state() api.State {
	switch {
	case p.wasReset:
		return api.Reset
	case p.lastOut && p.lastIn:
		return api.Closed
	case p.lastOut:
		return api.LocalClosed
	case p.lastIn:
		return api.RemoteClosed
	case p.accepted:
		return api.Established
	case p.mine:
		return api.SynSent
	}
	return api.SynRecv
}

func (p *plain) view() api.StreamView {
	v := api.StreamView{
		ID: p.id, State: p.state(), Mine: p.mine, Accepted: p.accepted, Staged: len(p.staged), Credit: uint32(p.credit),
		Left: p.left, Unread: len(p.unread), Owed: p.owed, Closing: p.closing, Ended: p.told,
	}
	if p.lastOut || p.wasReset || p.wasCut {
		v.Credit = 0
	}
	if p.lastIn || p.wasReset || p.wasCut {
		v.Left, v.Owed = 0, 0
	}
	return v
}

// both is a stream beside what the chapter says of it: each call must answer as that does.
type both struct {
	s *stream.Stream
	p plain
}

func newBoth(t *testing.T, id uint32, cfg api.Config, mine bool) *both {
	t.Helper()
	b := &both{made(t, id, cfg, mine), newPlain(id, cfg, mine)}
	b.same(t)
	return b
}

func (b *both) write(t *testing.T, p string) int {
	t.Helper()
	n, want := b.p.write(p)
	writes(t, b.s, p, n, want)
	b.same(t)
	return n
}

func (b *both) close(t *testing.T) {
	t.Helper()
	fails(t, "Close", b.s.Close(), b.p.close())
	b.same(t)
}

func (b *both) accept(t *testing.T) {
	t.Helper()
	fails(t, "Accept", b.s.Accept(), b.p.accept())
	b.same(t)
}

func (b *both) read(t *testing.T, n int) (string, uint32, error) {
	t.Helper()
	gave, delta, want := b.p.read(n)
	reads(t, b.s, n, gave, delta, want)
	b.same(t)
	return gave, delta, want
}

func (b *both) frame(t *testing.T) (api.Header, string, bool) {
	t.Helper()
	head, bore, ok := b.p.frame()
	got, gotOk := b.s.Frame()
	if got.Head != head || string(got.Data) != bore || gotOk != ok {
		t.Fatalf("Frame: %+v %q, %v, want %+v %q, %v", got.Head, got.Data, gotOk, head, bore, ok)
	}
	b.same(t)
	return head, bore, ok
}

func (b *both) arrive(t *testing.T, data string, fin bool) error {
	t.Helper()
	want := b.p.arrive(data, fin)
	fails(t, "Arrive", b.s.Arrive([]byte(data), fin), want)
	b.same(t)
	return want
}

func (b *both) grant(t *testing.T, delta uint32, fin bool) error {
	t.Helper()
	want := b.p.grant(delta, fin)
	fails(t, "Grant", b.s.Grant(delta, fin), want)
	b.same(t)
	return want
}

func (b *both) reset(t *testing.T) {
	t.Helper()
	b.s.Reset()
	b.p.reset()
	b.same(t)
}

func (b *both) cut(t *testing.T) {
	t.Helper()
	b.s.Cut()
	b.p.cut()
	b.same(t)
}

// same: all that can be looked at; asking it twice tells whether asking changes it.
func (b *both) same(t *testing.T) {
	t.Helper()
	for range 2 {
		sees(t, b.s, b.p.view())
		looks(t, b.s, b.p.ready(), b.p.quiet(), b.p.done(), len(b.p.staged)+len(b.p.unread))
	}
}

// made: a stream that must come about.
func made(t *testing.T, id uint32, cfg api.Config, mine bool) *stream.Stream {
	t.Helper()
	s, err := stream.New(id, cfg, mine)
	if s == nil || err != nil {
		t.Fatalf("New(%d, %+v, %v): %v, %v", id, cfg, mine, s, err)
	}
	return s
}

// writes: a Write that must answer so.
func writes(t *testing.T, s *stream.Stream, p string, n int, want error) {
	t.Helper()
	if got, err := s.Write([]byte(p)); got != n || !sentinels.Just(err, want) {
		t.Fatalf("Write of %d bytes: %d, %v, want %d, %v", len(p), got, err, n, want)
	}
}

// reads: a Read that must answer so.
func reads(t *testing.T, s *stream.Stream, n int, gave string, delta uint32, want error) {
	t.Helper()
	if got, d, err := s.Read(n); string(got) != gave || d != delta || !sentinels.Just(err, want) {
		t.Fatalf("Read(%d): %d bytes, %d, %v, want %d bytes, %d, %v", n, len(got), d, err, len(gave), delta, want)
	}
}

// frames: the next frame must be this one.
func frames(t *testing.T, s *stream.Stream, id uint32, flags uint16, payload string) {
	t.Helper()
	if !s.Ready() {
		t.Fatal("not ready")
	}
	f, ok := s.Frame()
	if !ok || f.Head != (api.Header{Type: api.TypeData, Flags: flags, Stream: id, Length: uint32(len(payload))}) || string(f.Data) != payload {
		t.Fatalf("Frame: %+v, %d bytes, %v, want flags %d and %d bytes", f.Head, len(f.Data), ok, flags, len(payload))
	}
}

// noFrame: there must be none.
func noFrame(t *testing.T, s *stream.Stream) {
	t.Helper()
	if f, ok := s.Frame(); ok || s.Ready() || f.Head != (api.Header{}) || len(f.Data) != 0 {
		t.Fatalf("Frame: %+v, %v, want none", f, ok)
	}
}

// fails: how a call has ended, and must have ended.
func fails(t *testing.T, call string, err, want error) {
	t.Helper()
	if !sentinels.Just(err, want) {
		t.Fatalf("%s: %v, want %v", call, err, want)
	}
}

// sees: the view must be this one.
func sees(t *testing.T, s *stream.Stream, want api.StreamView) {
	t.Helper()
	if got := s.View(); got != want {
		t.Fatalf("View: %+v, want %+v", got, want)
	}
}

// looks: what the calls tell that only look must be this.
func looks(t *testing.T, s *stream.Stream, ready, quiet, done bool, held int) {
	t.Helper()
	if s.Ready() != ready || s.Quiet() != quiet || s.Done() != done || s.Held() != held {
		t.Fatalf("Ready %v, Quiet %v, Done %v, Held %d, want %v, %v, %v, %d", s.Ready(), s.Quiet(), s.Done(), s.Held(), ready, quiet, done, held)
	}
}
