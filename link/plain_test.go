package link_test

import (
	"bytes"
	"errors"
	"slices"
	"testing"

	"culvert/api"
	"culvert/frame"
	"culvert/link"
	"culvert/sentinels"
	"culvert/session"
	"culvert/specimens"
)

// plain is what the chapter says of a link, word for word. What its sessions lay out is taken from them at once, so that all that is on its way lies open, as texts.
type plain struct {
	cfg  api.Config
	ends [2]plainEnd
	cut  bool
}

type plainEnd struct {
	s    *session.Session
	out  string // what waits to be taken
	pipe string // what is under way to the other end
	held string // what came of a frame that isn't whole
}

func newPlain(cfg api.Config) *plain {
	p := &plain{cfg: cfg}
	for e := range p.ends {
		p.ends[e].s, _ = session.New(cfg, e == 0)
	}
	return p
}

func (p *plain) do(op api.LinkOp) (r api.LinkResult, err error) {
	if op.Kind < 1 || op.Kind > 14 || op.Kind != api.DoCut && op.End != 0 && op.End != 1 {
		return r, api.ErrRange
	}
	if op.Kind == api.DoCut {
		p.cutOff()
		return r, nil
	}
	s := p.ends[op.End].s
	switch op.Kind {
	case api.DoOpen:
		r.ID, err = s.Open()
	case api.DoAccept:
		r.ID, err = s.Accept()
	case api.DoWrite:
		r.N, err = s.Write(op.ID, op.Data)
	case api.DoRead:
		r.Data, err = s.Read(op.ID, op.N)
	case api.DoClose:
		err = s.Close(op.ID)
	case api.DoReset:
		err = s.Reset(op.ID)
	case api.DoPing:
		r.ID, err = s.Ping()
	case api.DoPongs:
		r.IDs = s.Pongs()
	case api.DoAway:
		err = s.GoAway()
	case api.DoStep:
		if p.step(op.End) {
			r.N = 1
		}
	case api.DoSend:
		r.N, err = p.send(op.End, op.N)
	case api.DoPass:
		r.N, err = p.pass(op.End, op.N)
	case api.DoInject:
		err = p.feed(op.End, string(op.Data))
	}
	return r, err
}

func (p *plain) round() error {
	if p.cut {
		return api.ErrCut
	}
	p.step(0)
	p.step(1)
	p.send(0, len(p.ends[0].out))
	p.send(1, len(p.ends[1].out))
	p.pass(0, len(p.ends[0].pipe))
	p.pass(1, len(p.ends[1].pipe))
	return nil
}

func (p *plain) step(e int) bool {
	x := &p.ends[e]
	if len(x.out) >= p.cfg.Out || !x.s.Step() {
		return false
	}
	x.out += string(x.s.Take(1 << 30))
	return true
}

func (p *plain) send(e, n int) (int, error) {
	if p.cut {
		return 0, api.ErrCut
	}
	x := &p.ends[e]
	n = max(0, min(n, len(x.out)))
	x.pipe += x.out[:n]
	x.out = x.out[n:]
	return n, nil
}

func (p *plain) pass(e, n int) (int, error) {
	if p.cut {
		return 0, api.ErrCut
	}
	x := &p.ends[e]
	n = max(0, min(n, len(x.pipe)))
	if n > 0 {
		p.feed(1-e, x.pipe[:n])
		x.pipe = x.pipe[n:]
	}
	return n, nil
}

func (p *plain) feed(e int, b string) error {
	x := &p.ends[e]
	if err := x.s.Feed([]byte(b)); err != nil {
		x.held = ""
		return err
	}
	x.held = split(x.held+b, func(api.Header) {})
	return nil
}

func (p *plain) cutOff() {
	p.cut = true
	for e := range p.ends {
		p.ends[e].s.Cut()
		p.ends[e] = plainEnd{s: p.ends[e].s}
	}
}

// split: sees the header of each whole frame; what stands behind the last of them.
func split(raw string, see func(h api.Header)) string {
	for {
		h, err := frame.Decode([]byte(raw))
		size := api.HeaderSize + frame.Size(h)
		if err != nil || len(raw) < size {
			return raw
		}
		see(h)
		raw = raw[size:]
	}
}

// onTheWay: all bytes that the end has laid out and that have come in no whole frame.
func (p *plain) onTheWay(e int) string {
	return p.ends[1-e].held + p.ends[e].pipe + p.ends[e].out
}

func (p *plain) work() int {
	sum := 0
	for _, x := range p.ends {
		sum += x.s.Held() + len(x.out) + len(x.pipe)
		sum += len(x.s.Tickets()) + len(x.s.Streams()) + len(x.s.Waiting()) + len(x.s.Pinged())
	}
	return 80*sum + 1
}

// both is a link beside what the chapter says of it: each call must answer as that does. Beside them stands what has come of the calls.
type both struct {
	l      *link.Link
	p      *plain
	ends   [2]*session.Session // as End has answered them at the beginning
	taken  [2]map[uint32]string
	gave   [2]map[uint32]string
	closed [2]map[uint32]bool
	told   [2]map[uint32]bool
	reset  map[uint32]bool
	asked  [2][]uint32
	pongs  [2][]uint32
}

// made: a link that must come about.
func made(t *testing.T, cfg api.Config) *both {
	t.Helper()
	l, err := link.New(cfg)
	if l == nil || err != nil {
		t.Fatalf("New(%+v): %v, %v", cfg, l, err)
	}
	b := &both{l: l, p: newPlain(cfg), reset: map[uint32]bool{}}
	for e := range 2 {
		b.ends[e] = l.End(e)
		b.taken[e], b.gave[e] = map[uint32]string{}, map[uint32]string{}
		b.closed[e], b.told[e] = map[uint32]bool{}, map[uint32]bool{}
	}
	return b
}

// fails: how a call has ended, and must have ended.
func fails(t *testing.T, call any, err, want error) {
	t.Helper()
	var v *api.Violation
	if errors.As(want, &v) {
		if !sentinels.Breach(err, v.Stream, v.Why) {
			t.Fatalf("%+v: %v, want a violation on %d, %v", call, err, v.Stream, v.Why)
		}
		return
	}
	if !sentinels.Just(err, want) {
		t.Fatalf("%+v: %v, want %v", call, err, want)
	}
}

// do: one operation. Its bytes are lent with spare room and written over afterwards; so is what it answers.
func (b *both) do(t *testing.T, op api.LinkOp) (api.LinkResult, error) {
	t.Helper()
	lent := op
	lent.Data = append(make([]byte, 0, len(op.Data)+3), op.Data...)
	got, err := b.l.Do(lent)
	if !bytes.Equal(lent.Data, op.Data) || !bytes.Equal(lent.Data[len(op.Data):cap(lent.Data)], make([]byte, cap(lent.Data)-len(op.Data))) {
		t.Fatalf("%+v has changed what it was handed", op)
	}
	specimens.Spoil(lent.Data)
	want, why := b.p.do(op)
	fails(t, op, err, why)
	if got.ID != want.ID || got.N != want.N || !bytes.Equal(got.Data, want.Data) || !slices.Equal(got.IDs, want.IDs) {
		t.Fatalf("%+v: %+v, want %+v", op, got, want)
	}
	specimens.Spoil(got.Data)
	spoilList(got.IDs)
	b.keep(op, want, why)
	return want, why
}

func spoilList(list []uint32) {
	list = list[:cap(list)]
	for i := range list {
		list[i] = ^list[i]
	}
}

// keep: what has come of an operation.
func (b *both) keep(op api.LinkOp, r api.LinkResult, err error) {
	e, id := op.End, op.ID
	switch {
	case op.Kind == api.DoRead && errors.Is(err, api.ErrEOF):
		b.told[e][id] = true
	case err != nil:
	case op.Kind == api.DoWrite:
		b.taken[e][id] += string(op.Data[:r.N])
	case op.Kind == api.DoRead:
		b.gave[e][id] += string(r.Data)
	case op.Kind == api.DoClose:
		b.closed[e][id] = true
	case op.Kind == api.DoReset:
		b.reset[id] = true
	case op.Kind == api.DoPing:
		b.asked[e] = append(b.asked[e], r.ID)
	case op.Kind == api.DoPongs:
		b.pongs[e] = append(b.pongs[e], r.IDs...)
	}
}

func (b *both) round(t *testing.T) error {
	t.Helper()
	want := b.p.round()
	fails(t, "Round", b.l.Round(), want)
	return want
}

// tells: all that can be looked at, as the chapter says; looking changes nothing, or the next call would tell.
func (b *both) tells(t *testing.T) {
	t.Helper()
	for e, x := range b.p.ends {
		if b.l.End(e) != b.ends[e] {
			t.Fatalf("End(%d) is another session than before", e)
		}
		if got := b.l.UnderWay(e); got != len(x.pipe) {
			t.Fatalf("UnderWay(%d): %d, want %d", e, got, len(x.pipe))
		}
		sameSession(t, b.ends[e], x)
	}
	if got, want := b.l.Work(), b.p.work(); got != want {
		t.Fatalf("Work: %d, want %d", got, want)
	}
}

func sameSession(t *testing.T, s *session.Session, x plainEnd) {
	t.Helper()
	fails(t, "Err", s.Err(), x.s.Err())
	if s.Pending() != len(x.out) || s.Held() != x.s.Held()+len(x.out) || s.Left() != x.s.Left() {
		t.Fatalf("Pending, Held, Left: %d, %d, %d, want %d, %d, %d", s.Pending(), s.Held(), s.Left(), len(x.out), x.s.Held()+len(x.out), x.s.Left())
	}
	here, there := s.Away()
	if h, th := x.s.Away(); here != h || there != th {
		t.Fatalf("Away: %v, %v, want %v, %v", here, there, h, th)
	}
	for _, lists := range [][2][]uint32{{s.Streams(), x.s.Streams()}, {s.Waiting(), x.s.Waiting()}, {s.Pinged(), x.s.Pinged()}} {
		if !slices.Equal(lists[0], lists[1]) {
			t.Fatalf("Streams, Waiting or Pinged: %v, want %v", lists[0], lists[1])
		}
	}
	if got, want := s.Tickets(), x.s.Tickets(); !slices.Equal(got, want) {
		t.Fatalf("Tickets: %v, want %v", got, want)
	}
	for _, id := range slices.Concat(s.Streams(), s.Waiting()) {
		got, _ := s.View(id)
		if want, _ := x.s.View(id); got != want {
			t.Fatalf("View(%d): %+v, want %+v", id, got, want)
		}
	}
}

// passing is what is on its way of one stream: bytes of payload, and what was granted.
type passing struct{ payload, delta int }

func (p *plain) passing(e int) map[uint32]passing {
	all := map[uint32]passing{}
	split(p.onTheWay(e), func(h api.Header) {
		x := all[h.Stream]
		x.payload += frame.Size(h)
		if h.Type == api.TypeWindow {
			x.delta += int(h.Length)
		}
		all[h.Stream] = x
	})
	for _, k := range p.ends[e].s.Tickets() {
		if k.Kind == api.TicketGrant {
			x := all[k.Stream]
			x.delta += int(k.Value)
			all[k.Stream] = x
		}
	}
	return all
}

// lawful: P20.2, P20.3, P20.4 and P4, for all streams and in both directions; nothing was injected.
func (b *both) lawful(t *testing.T) {
	t.Helper()
	for e, s := range b.ends {
		want := error(nil)
		if b.p.cut {
			want = api.ErrCut
		}
		fails(t, "P20.2: Err", s.Err(), want)
		b.beginnings(t, e)
		if !b.p.cut {
			b.sums(t, e)
		}
	}
}

// beginnings: P20.4 and P3, for what goes from this end to the other.
func (b *both) beginnings(t *testing.T, e int) {
	t.Helper()
	for id, gave := range b.gave[1-e] {
		if taken := b.taken[e][id]; len(gave) > len(taken) || taken[:len(gave)] != gave {
			t.Fatalf("P20.4: stream %d: Reads gave %q of %q", id, gave, taken)
		}
	}
	for id := range b.told[1-e] {
		if !b.closed[e][id] || b.gave[1-e][id] != b.taken[e][id] {
			t.Fatalf("P20.4: the end of stream %d was told behind %q of %q", id, b.gave[1-e][id], b.taken[e][id])
		}
	}
}

// sums: P20.3 and P4, for what goes from this end to the other.
func (b *both) sums(t *testing.T, e int) {
	t.Helper()
	window := b.p.cfg.Window
	payloads, grants := b.p.passing(e), b.p.passing(1-e)
	for _, id := range slices.Concat(b.ends[e].Streams(), b.ends[e].Waiting()) {
		here, _ := b.ends[e].View(id)
		there, came := b.ends[1-e].View(id)
		if !came || b.reset[id] {
			continue
		}
		if n := payloads[id].payload + there.Unread; n > window {
			t.Fatalf("P4: stream %d: %d bytes were laid out and not read, the window is %d", id, n, window)
		}
		if here.State == api.LocalClosed || here.State == api.Closed {
			continue
		}
		if sum := int(here.Credit) + payloads[id].payload + there.Unread + there.Owed + grants[id].delta; sum != window {
			t.Fatalf("P20.3: stream %d from end %d: together %d, not the window %d", id, e, sum, window)
		}
	}
}

// fair: one fair round, the numbers of which are drawn from 1 to most.
func (b *both) fair(t *testing.T, below func(n int) int, most int) {
	t.Helper()
	n := func() int { return 1 + below(most) }
	for e := range 2 {
		for err := error(nil); err == nil; {
			_, err = b.do(t, api.LinkOp{Kind: api.DoAccept, End: e})
		}
		for _, id := range b.ends[e].Streams() {
			b.do(t, api.LinkOp{Kind: api.DoRead, End: e, ID: id, N: n()})
		}
		b.do(t, api.LinkOp{Kind: api.DoStep, End: e})
	}
	for e := range 2 {
		b.do(t, api.LinkOp{Kind: api.DoSend, End: e, N: n()})
		b.do(t, api.LinkOp{Kind: api.DoPass, End: e, N: n()})
	}
}

func (b *both) atRest() bool {
	for e, s := range b.ends {
		if b.l.UnderWay(e)+s.Held()+len(s.Tickets())+len(s.Waiting())+len(s.Pinged()) > 0 {
			return false
		}
		for _, id := range s.Streams() {
			v, _ := s.View(id)
			lastOut := v.State == api.LocalClosed || v.State == api.Closed
			lastIn := v.State == api.RemoteClosed || v.State == api.Closed
			if v.Closing && !lastOut || lastIn && !v.Ended {
				return false
			}
		}
	}
	return true
}

// comesToRest: P20.5 and P6, by fair rounds with numbers up to most; in how many of them, and how many there might have been.
func (b *both) comesToRest(t *testing.T, below func(n int) int, most int) (rounds, work int) {
	t.Helper()
	work = b.l.Work()
	for ; !b.atRest(); rounds++ {
		if rounds == work {
			t.Fatalf("P20.5: not at rest behind %d fair rounds", work)
		}
		b.fair(t, below, most)
	}
	b.delivered(t)
	for range 3 {
		b.fair(t, below, most)
		if !b.atRest() {
			t.Fatal("P20.5: a link at rest doesn't stay so")
		}
	}
	b.tells(t)
	b.lawful(t)
	return rounds, work
}

// delivered: what P20.5 says of a link at rest.
func (b *both) delivered(t *testing.T) {
	t.Helper()
	for e := range 2 {
		for id, taken := range b.taken[e] {
			if gave := b.gave[1-e][id]; gave != taken {
				t.Fatalf("P20.5: stream %d: %q was given of %q", id, gave, taken)
			}
		}
		for id := range b.closed[e] {
			if !b.told[1-e][id] {
				t.Fatalf("P20.5: the end of stream %d isn't told", id)
			}
		}
		b.do(t, api.LinkOp{Kind: api.DoPongs, End: e})
		if !slices.Equal(b.pongs[e], b.asked[e]) {
			t.Fatalf("P20.5: pings %v, answered %v", b.asked[e], b.pongs[e])
		}
	}
}
