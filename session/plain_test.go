package session_test

import (
	"bytes"
	"encoding/hex"
	"slices"
	"strings"
	"testing"

	"culvert/api"
	"culvert/frame"
	"culvert/sentinels"
	"culvert/session"
	"culvert/specimens"
)

// plain is what the chapter says that a session keeps, word for word, in lists.
type plain struct {
	cfg         api.Config
	client      bool
	next        int // the next own id
	marks       [2]uint32
	table       []*plainStream
	waits       []*plainStream
	lane        []plainTicket
	turns       []uint32
	token       uint32 // the last one that was asked
	pinged      []uint32
	answered    []uint32
	held        string // by the decoder
	out         string
	here, there bool
	over        error
}

type plainStream struct {
	id               uint32
	mine, accepted   bool
	staged, unread   string
	credit           int
	left, owed       int
	closing, lastOut bool
	lastIn, told     bool
	wasReset         bool
}

type plainTicket struct {
	api.Ticket
	refused bool
}

func newPlain(cfg api.Config, client bool) *plain {
	p := &plain{cfg: cfg, client: client, next: 2 + 2*cfg.Skip}
	if client {
		p.next--
	}
	return p
}

// copied: one of its own, on which something can be tried.
func (p *plain) copied() *plain {
	q := *p
	q.table, q.waits = copiedStreams(p.table), copiedStreams(p.waits)
	q.lane, q.turns = slices.Clone(p.lane), slices.Clone(p.turns)
	q.pinged, q.answered = slices.Clone(p.pinged), slices.Clone(p.answered)
	return &q
}

func copiedStreams(all []*plainStream) []*plainStream {
	var out []*plainStream
	for _, st := range all {
		c := *st
		out = append(out, &c)
	}
	return out
}

func (p *plain) newStream(id uint32, mine bool) *plainStream {
	return &plainStream{id: id, mine: mine, credit: p.cfg.Window, left: p.cfg.Window}
}

func (p *plain) cut() bool { return p.over == api.ErrCut }

func (p *plain) own(id uint32) bool { return id%2 == 1 == p.client }

func (p *plain) idsLeft() int { return max(0, (1<<32+1-p.next)/2) }

func (p *plain) inTable(id uint32) *plainStream { return among(p.table, id) }

func (p *plain) waiting(id uint32) *plainStream { return among(p.waits, id) }

func among(all []*plainStream, id uint32) *plainStream {
	for _, st := range all {
		if st.id == id {
			return st
		}
	}
	return nil
}

// counts: the streams of the table that this end opened, or the other, and the RST tickets of such that were taken.
func (p *plain) counts(mine bool) int {
	n := 0
	for _, st := range p.table {
		if st.mine == mine {
			n++
		}
	}
	for _, k := range p.lane {
		if k.Kind == api.TicketRST && p.own(k.Stream) == mine && !k.refused {
			n++
		}
	}
	return n
}

func (p *plain) unaccepted() int {
	n := 0
	for _, st := range p.table {
		if st.mine && !st.accepted {
			n++
		}
	}
	return n
}

func (p *plain) tickets(which func(k plainTicket) bool) int {
	n := 0
	for _, k := range p.lane {
		if which(k) {
			n++
		}
	}
	return n
}

// takeOut: those tickets of which this is true; were there any?
func (p *plain) takeOut(which func(k plainTicket) bool) bool {
	n := len(p.lane)
	p.lane = slices.DeleteFunc(slices.Clone(p.lane), which)
	return len(p.lane) < n
}

func (p *plain) withdraw(kind api.TicketKind, id uint32) bool {
	return p.takeOut(func(k plainTicket) bool { return k.Kind == kind && k.Stream == id })
}

func (p *plain) put(kind api.TicketKind, id, value uint32) {
	for i, k := range p.lane {
		if kind == api.TicketGrant && k.Kind == kind && k.Stream == id {
			p.lane[i].Value += value
			return
		}
	}
	p.lane = append(p.lane, plainTicket{Ticket: api.Ticket{Kind: kind, Stream: id, Value: value}})
}

func (p *plain) leave(id uint32) {
	p.table = slices.DeleteFunc(slices.Clone(p.table), func(st *plainStream) bool { return st.id == id })
}

// settle: who has a turn, by what was done to one stream at most.
func (p *plain) settle() {
	wants := func(st *plainStream) bool {
		if st == nil || st.wasReset || p.over != nil || st.lastOut {
			return false
		}
		return st.staged != "" && st.credit > 0 || st.closing && st.staged == ""
	}
	p.turns = slices.DeleteFunc(slices.Clone(p.turns), func(id uint32) bool { return !wants(p.inTable(id)) })
	for _, st := range p.table {
		if wants(st) && !slices.Contains(p.turns, st.id) {
			p.turns = append(p.turns, st.id)
		}
	}
}

func (p *plain) open() (uint32, error) {
	switch {
	case p.over != nil:
		return 0, p.over
	case p.there:
		return 0, api.ErrAway
	case p.counts(true) >= p.cfg.Streams || p.unaccepted() >= p.cfg.Backlog:
		return 0, api.ErrLimit
	case p.idsLeft() == 0:
		return 0, api.ErrExhausted
	}
	id := uint32(p.next)
	p.next += 2
	p.table = append(p.table, p.newStream(id, true))
	p.put(api.TicketSYN, id, 0)
	return id, nil
}

func (p *plain) accept() (uint32, error) {
	switch {
	case p.over != nil:
		return 0, p.over
	case len(p.waits) == 0:
		return 0, api.ErrEmpty
	case p.counts(false) >= p.cfg.Streams:
		return 0, api.ErrLimit
	}
	st := p.waits[0]
	p.waits = p.waits[1:]
	st.accepted = true
	p.table = append(p.table, st)
	p.put(api.TicketACK, st.id, 0)
	return st.id, nil
}

func (p *plain) ping() (uint32, error) {
	switch {
	case p.over != nil:
		return 0, p.over
	case len(p.pinged) >= p.cfg.Pings:
		return 0, api.ErrLimit
	}
	p.token++
	p.pinged = append(p.pinged, p.token)
	p.put(api.TicketPing, 0, p.token)
	return p.token, nil
}

func (p *plain) goAway() error {
	if p.over != nil {
		return p.over
	}
	if !p.here {
		p.here = true
		p.put(api.TicketAway, 0, api.AwayNormal)
	}
	return nil
}

// meant: the stream that a call means; the call's n may be refused ahead of telling of a reset.
func (p *plain) meant(id uint32, n int) (*plainStream, error) {
	if p.over != nil && !p.cut() {
		return nil, p.over
	}
	st := p.inTable(id)
	switch {
	case st == nil:
		return nil, api.ErrNoStream
	case n < 0:
		return nil, api.ErrRange
	case st.wasReset:
		p.leave(id)
		return nil, api.ErrReset
	}
	return st, nil
}

func (p *plain) write(id uint32, b string) (int, error) {
	st, err := p.meant(id, 0)
	switch {
	case err != nil:
		return 0, err
	case p.cut():
		return 0, api.ErrCut
	case st.closing:
		return 0, api.ErrClosed
	}
	n := min(len(b), p.cfg.Stage-len(st.staged))
	st.staged += b[:n]
	p.settle()
	return n, nil
}

func (p *plain) read(id uint32, n int) (string, error) {
	st, err := p.meant(id, n)
	switch {
	case err != nil:
		return "", err
	case n == 0:
		return "", nil
	case st.unread == "" && st.lastIn:
		st.told = true
		if p.cut() || st.lastOut {
			p.leave(id)
		}
		return "", api.ErrEOF
	case st.unread == "" && p.cut():
		return "", api.ErrCut
	}
	n = min(n, len(st.unread))
	gave := st.unread[:n]
	st.unread = st.unread[n:]
	if st.lastIn || p.cut() {
		return gave, nil
	}
	st.owed += n
	if st.owed > 0 && st.owed >= (p.cfg.Window+1)/2 {
		st.left += st.owed
		p.put(api.TicketGrant, id, uint32(st.owed))
		st.owed = 0
	}
	return gave, nil
}

func (p *plain) close(id uint32) error {
	st, err := p.meant(id, 0)
	switch {
	case err != nil:
		return err
	case p.cut():
		return api.ErrCut
	case st.closing:
		return api.ErrClosed
	}
	st.closing = true
	p.settle()
	return nil
}

func (p *plain) reset(id uint32) error {
	st, err := p.meant(id, 0)
	switch {
	case err != nil:
		return err
	case p.cut():
		return api.ErrCut
	}
	p.leave(id)
	p.settle()
	if p.withdraw(api.TicketSYN, id) {
		return nil
	}
	p.withdraw(api.TicketGrant, id)
	if !(st.lastOut && st.lastIn) {
		p.put(api.TicketRST, id, 0)
	}
	return nil
}

func (p *plain) pongs() []uint32 {
	told := p.answered
	p.answered = nil
	return told
}

func (p *plain) cutOff() {
	p.out, p.lane = "", nil
	if p.over != nil {
		return
	}
	p.over = api.ErrCut
	p.turns, p.pinged, p.answered, p.waits, p.held = nil, nil, nil, nil, ""
	for _, st := range p.table {
		st.staged = ""
	}
}

// end: by a violation, or by the other end's failure.
func (p *plain) end(err error) error {
	p.over = err
	p.table, p.waits, p.lane, p.turns, p.pinged, p.answered, p.held = nil, nil, nil, nil, nil, nil, ""
	if err != api.ErrPeer {
		p.put(api.TicketAway, 0, api.AwayProtocol)
	}
	return err
}

func (p *plain) feed(b string) error {
	if p.over != nil {
		return p.over
	}
	p.held += b
	for len(p.held) >= api.HeaderSize {
		h, _ := frame.Decode([]byte(p.held))
		if why := frame.Check(h, p.cfg.Frame); why != nil {
			return p.end(&api.Violation{Stream: h.Stream, Why: why})
		}
		size := api.HeaderSize + frame.Size(h)
		if len(p.held) < size {
			break
		}
		payload := p.held[api.HeaderSize:size]
		p.held = p.held[size:]
		if why := p.hear(h, payload); why == api.ErrPeer {
			return p.end(why)
		} else if why != nil {
			return p.end(&api.Violation{Stream: h.Stream, Why: why})
		}
		p.settle()
	}
	return nil
}

// hear: what a frame does; why it ends the session, or nil.
func (p *plain) hear(h api.Header, payload string) error {
	switch {
	case h.Type == api.TypePing && h.Flags == api.FlagSYN:
		if p.tickets(func(k plainTicket) bool { return k.Kind == api.TicketPong }) >= p.cfg.Pings {
			return api.ErrFlood
		}
		p.put(api.TicketPong, 0, h.Length)
	case h.Type == api.TypePing:
		lies := p.tickets(func(k plainTicket) bool { return k.Kind == api.TicketPing && k.Value == h.Length }) > 0
		if lies || !slices.Contains(p.pinged, h.Length) {
			return api.ErrPing
		}
		p.pinged = slices.DeleteFunc(slices.Clone(p.pinged), func(token uint32) bool { return token == h.Length })
		p.answered = append(p.answered, h.Length)
	case h.Type == api.TypeAway && h.Length != 0:
		return api.ErrPeer
	case h.Type == api.TypeAway:
		p.there = true
	case h.Flags&api.FlagSYN != 0:
		return p.hearSyn(h, payload)
	default:
		return p.hearRest(h, payload)
	}
	return nil
}

func (p *plain) hearSyn(h api.Header, payload string) error {
	refused := p.tickets(func(k plainTicket) bool { return k.refused })
	switch {
	case p.own(h.Stream):
		return api.ErrParity
	case h.Stream <= p.marks[h.Stream%2]:
		return api.ErrReused
	case len(p.waits)+refused >= p.cfg.Backlog:
		return api.ErrFlood
	}
	p.marks[h.Stream%2] = h.Stream
	if p.here {
		p.put(api.TicketRST, h.Stream, 0)
		p.lane[len(p.lane)-1].refused = true
		return nil
	}
	p.waits = append(p.waits, p.newStream(h.Stream, false))
	return p.hearRest(h, payload)
}

func (p *plain) hearRest(h api.Header, payload string) error {
	if h.Stream > p.marks[h.Stream%2] {
		return api.ErrUnknown
	}
	st := p.inTable(h.Stream)
	if st == nil {
		st = p.waiting(h.Stream)
	}
	switch {
	case h.Flags&api.FlagRST != 0:
		p.hearRST(h.Stream, st)
		return nil
	case st == nil || st.wasReset:
		return nil
	}
	if h.Flags&api.FlagACK != 0 && st.mine {
		st.accepted = true
	}
	if h.Type == api.TypeData && !st.lastIn {
		if len(payload) > st.left {
			return api.ErrWindow
		}
		st.left -= len(payload)
		st.unread += payload
	}
	if h.Type == api.TypeWindow && !st.lastOut {
		if st.credit+int(h.Length) > p.cfg.Window {
			return api.ErrCredit
		}
		st.credit += int(h.Length)
	}
	if h.Flags&api.FlagFIN != 0 && !st.lastIn {
		st.lastIn = true
		st.left, st.owed = 0, 0
		p.withdraw(api.TicketGrant, h.Stream)
	}
	return nil
}

func (p *plain) hearRST(id uint32, st *plainStream) {
	p.takeOut(func(k plainTicket) bool { return k.Stream == id })
	p.waits = slices.DeleteFunc(slices.Clone(p.waits), func(st *plainStream) bool { return st.id == id })
	if st != nil {
		st.wasReset, st.staged, st.unread = true, "", ""
	}
}

func (p *plain) step() bool {
	switch {
	case len(p.out) >= p.cfg.Out:
		return false
	case len(p.lane) > 0:
		k := p.lane[0]
		p.lane = p.lane[1:]
		if k.Kind == api.TicketSYN {
			p.marks[k.Stream%2] = k.Stream
		}
		p.layOut(controlFrame(k.Ticket), "")
		return true
	case len(p.turns) == 0:
		return false
	}
	st := p.inTable(p.turns[0])
	p.turns = p.turns[1:]
	n := min(len(st.staged), st.credit, p.cfg.Frame)
	h := api.Header{Type: api.TypeData, Stream: st.id, Length: uint32(n)}
	payload := st.staged[:n]
	st.staged = st.staged[n:]
	st.credit -= n
	if st.closing && st.staged == "" {
		h.Flags = api.FlagFIN
		st.lastOut = true
	}
	p.layOut(h, payload)
	if st.lastOut && st.lastIn && st.told {
		p.leave(st.id)
	}
	p.settle()
	return true
}

func (p *plain) layOut(h api.Header, payload string) {
	p.out += string(frame.Encode(h)) + payload
}

// controlFrame: what P18.9 says of each kind of ticket.
func controlFrame(k api.Ticket) api.Header {
	switch k.Kind {
	case api.TicketSYN:
		return api.Header{Type: api.TypeWindow, Flags: api.FlagSYN, Stream: k.Stream}
	case api.TicketACK:
		return api.Header{Type: api.TypeWindow, Flags: api.FlagACK, Stream: k.Stream}
	case api.TicketGrant:
		return api.Header{Type: api.TypeWindow, Stream: k.Stream, Length: k.Value}
	case api.TicketRST:
		return api.Header{Type: api.TypeWindow, Flags: api.FlagRST, Stream: k.Stream}
	case api.TicketPing:
		return api.Header{Type: api.TypePing, Flags: api.FlagSYN, Length: k.Value}
	case api.TicketPong:
		return api.Header{Type: api.TypePing, Flags: api.FlagACK, Length: k.Value}
	}
	return api.Header{Type: api.TypeAway, Length: k.Value}
}

func (p *plain) take(n int) string {
	n = max(0, min(n, len(p.out)))
	took := p.out[:n]
	p.out = p.out[n:]
	return took
}

func (p *plain) view(st *plainStream) api.StreamView {
	v := api.StreamView{
		ID: st.id, Mine: st.mine, Accepted: st.accepted, Staged: len(st.staged), Credit: uint32(st.credit),
		Left: st.left, Unread: len(st.unread), Owed: st.owed, Closing: st.closing, Ended: st.told,
	}
	switch {
	case st.wasReset:
		v.State = api.Reset
	case st.lastOut && st.lastIn:
		v.State = api.Closed
	case st.lastOut:
		v.State = api.LocalClosed
	case st.lastIn:
		v.State = api.RemoteClosed
	case st.accepted:
		v.State = api.Established
	case st.mine:
		v.State = api.SynSent
	default:
		v.State = api.SynRecv
	}
	if st.lastOut || st.wasReset || p.cut() {
		v.Credit = 0
	}
	if st.lastIn || st.wasReset || p.cut() {
		v.Left, v.Owed = 0, 0
	}
	return v
}

func (p *plain) allHeld() int {
	n := len(p.out) + len(p.held)
	for _, st := range slices.Concat(p.table, p.waits) {
		n += len(st.staged) + len(st.unread)
	}
	return n
}

// both is a session beside what the chapter says of it: each call must answer as that does.
type both struct {
	s *session.Session
	p *plain
	// quick: the views are not asked behind each call, where the caller asks them itself.
	quick bool
}

// made: a session that must come about.
func made(t *testing.T, cfg api.Config, client bool) *both {
	t.Helper()
	s, err := session.New(cfg, client)
	if s == nil || err != nil {
		t.Fatalf("New(%+v, %v): %v, %v", cfg, client, s, err)
	}
	b := &both{s: s, p: newPlain(cfg, client)}
	b.same(t)
	return b
}

// fails: how a call has ended, and must have ended.
func fails(t *testing.T, call string, err, want error) {
	t.Helper()
	if v, ok := want.(*api.Violation); ok {
		if !sentinels.Breach(err, v.Stream, v.Why) {
			t.Fatalf("%s: %v, want a violation on %d, %v", call, err, v.Stream, v.Why)
		}
		return
	}
	if !sentinels.Just(err, want) {
		t.Fatalf("%s: %v, want %v", call, err, want)
	}
}

func (b *both) number(t *testing.T, call string, got uint32, err error, want uint32, why error) uint32 {
	t.Helper()
	fails(t, call, err, why)
	if got != want {
		t.Fatalf("%s: %d, want %d", call, got, want)
	}
	b.look(t)
	return got
}

func (b *both) open(t *testing.T) (uint32, error) {
	t.Helper()
	got, err := b.s.Open()
	want, why := b.p.open()
	return b.number(t, "Open", got, err, want, why), why
}

func (b *both) accept(t *testing.T) (uint32, error) {
	t.Helper()
	got, err := b.s.Accept()
	want, why := b.p.accept()
	return b.number(t, "Accept", got, err, want, why), why
}

func (b *both) ping(t *testing.T) (uint32, error) {
	t.Helper()
	got, err := b.s.Ping()
	want, why := b.p.ping()
	return b.number(t, "Ping", got, err, want, why), why
}

func (b *both) goAway(t *testing.T) error {
	t.Helper()
	want := b.p.goAway()
	fails(t, "GoAway", b.s.GoAway(), want)
	b.look(t)
	return want
}

// lent: bytes with spare room, as a caller may hand them in, who writes over all of it afterwards.
func lent(p string) []byte { return append(make([]byte, 0, len(p)+3), p...) }

// unchanged: a call has left what it was handed as it was; from now on it is spoilt.
func unchanged(t *testing.T, call string, lent []byte, p string) {
	t.Helper()
	if string(lent) != p || !bytes.Equal(lent[len(lent):cap(lent)], make([]byte, cap(lent)-len(lent))) {
		t.Fatalf("%s has changed what it was handed", call)
	}
	specimens.Spoil(lent)
}

func (b *both) write(t *testing.T, id uint32, p string) (int, error) {
	t.Helper()
	buf := lent(p)
	got, err := b.s.Write(id, buf)
	unchanged(t, "Write", buf, p)
	want, why := b.p.write(id, p)
	fails(t, "Write", err, why)
	if got != want {
		t.Fatalf("Write of %d bytes to %d: %d, want %d", len(p), id, got, want)
	}
	b.look(t)
	return want, why
}

func (b *both) read(t *testing.T, id uint32, n int) (string, error) {
	t.Helper()
	got, err := b.s.Read(id, n)
	want, why := b.p.read(id, n)
	fails(t, "Read", err, why)
	if string(got) != want {
		t.Fatalf("Read(%d, %d): %q, want %q", id, n, got, want)
	}
	specimens.Spoil(got)
	b.look(t)
	return want, why
}

func (b *both) close(t *testing.T, id uint32) error {
	t.Helper()
	want := b.p.close(id)
	fails(t, "Close", b.s.Close(id), want)
	b.look(t)
	return want
}

func (b *both) reset(t *testing.T, id uint32) error {
	t.Helper()
	want := b.p.reset(id)
	fails(t, "Reset", b.s.Reset(id), want)
	b.look(t)
	return want
}

func (b *both) pongs(t *testing.T) []uint32 {
	t.Helper()
	want := b.p.pongs()
	b.list(t, "Pongs", b.s.Pongs(), want)
	b.look(t)
	return want
}

func (b *both) cut(t *testing.T) {
	t.Helper()
	b.s.Cut()
	b.p.cutOff()
	b.look(t)
}

func (b *both) feed(t *testing.T, p string) error {
	t.Helper()
	buf := lent(p)
	err := b.s.Feed(buf)
	unchanged(t, "Feed", buf, p)
	want := b.p.feed(p)
	fails(t, "Feed", err, want)
	b.look(t)
	return want
}

func (b *both) step(t *testing.T) bool {
	t.Helper()
	want := b.p.step()
	if got := b.s.Step(); got != want {
		t.Fatalf("Step: %v, want %v", got, want)
	}
	b.look(t)
	return want
}

func (b *both) take(t *testing.T, n int) string {
	t.Helper()
	got, want := b.s.Take(n), b.p.take(n)
	if string(got) != want {
		t.Fatalf("Take(%d): % x, want % x", n, got, want)
	}
	specimens.Spoil(got)
	b.look(t)
	return want
}

// list: numbers that must be these; they are written over, which must change nothing.
func (b *both) list(t *testing.T, call string, got, want []uint32) {
	t.Helper()
	if !slices.Equal(got, want) {
		t.Fatalf("%s: %v, want %v", call, got, want)
	}
	spoilt := got[:cap(got)]
	for i := range spoilt {
		spoilt[i] = ^spoilt[i]
	}
}

func (b *both) look(t *testing.T) {
	t.Helper()
	if !b.quick {
		b.same(t)
	}
}

// same: all that can be looked at, twice, as looking must change nothing; and the bounds of P18.12.
func (b *both) same(t *testing.T) {
	t.Helper()
	for range 2 {
		b.sameWhole(t)
		b.sameStreams(t)
	}
	cfg := b.p.cfg
	if held := b.s.Held(); held > session.Cap(cfg) {
		t.Fatalf("Held: %d, above Cap %d", held, session.Cap(cfg))
	}
	if n := len(b.s.Tickets()); n > 4*cfg.Streams+cfg.Backlog+2*cfg.Pings+1 {
		t.Fatalf("%d tickets", n)
	}
}

func (b *both) sameWhole(t *testing.T) {
	t.Helper()
	p := b.p
	fails(t, "Err", b.s.Err(), p.over)
	if here, there := b.s.Away(); here != p.here || there != p.there {
		t.Fatalf("Away: %v, %v, want %v, %v", here, there, p.here, p.there)
	}
	if got := b.s.Left(); got != p.idsLeft() {
		t.Fatalf("Left: %d, want %d", got, p.idsLeft())
	}
	if got := b.s.Pending(); got != len(p.out) {
		t.Fatalf("Pending: %d, want %d", got, len(p.out))
	}
	if got := b.s.Held(); got != p.allHeld() {
		t.Fatalf("Held: %d, want %d", got, p.allHeld())
	}
	b.list(t, "Pinged", b.s.Pinged(), p.pinged)
	var lane []api.Ticket
	for _, k := range p.lane {
		lane = append(lane, k.Ticket)
	}
	got := b.s.Tickets()
	if !slices.Equal(got, lane) {
		t.Fatalf("Tickets: %v, want %v", got, lane)
	}
	clear(got[:cap(got)])
}

func (b *both) sameStreams(t *testing.T) {
	t.Helper()
	numbers := func(all []*plainStream) []uint32 {
		var list []uint32
		for _, st := range all {
			list = append(list, st.id)
		}
		return list
	}
	table := numbers(b.p.table)
	slices.Sort(table)
	b.list(t, "Streams", b.s.Streams(), table)
	b.list(t, "Waiting", b.s.Waiting(), numbers(b.p.waits))
	for _, st := range slices.Concat(b.p.table, b.p.waits) {
		b.sees(t, st.id, b.p.view(st), true)
	}
	for id := range uint32(8) { // some that are no streams
		if b.p.inTable(id) == nil && b.p.waiting(id) == nil {
			b.sees(t, id, api.StreamView{}, false)
		}
	}
}

func (b *both) sees(t *testing.T, id uint32, want api.StreamView, there bool) {
	t.Helper()
	if got, ok := b.s.View(id); got != want || ok != there {
		t.Fatalf("View(%d): %+v, %v, want %+v, %v", id, got, ok, want, there)
	}
}

// steps: so many frames are laid out, and no more; their bytes, which are taken.
func (b *both) steps(t *testing.T, many int) string {
	t.Helper()
	for i := range many {
		if !b.step(t) {
			t.Fatalf("Step %d of %d: false", i+1, many)
		}
	}
	if b.step(t) {
		t.Fatalf("a Step more than %d", many)
	}
	return b.take(t, 1<<30)
}

// fed: frames that come whole, and break nothing.
func (b *both) fed(t *testing.T, frames ...api.Frame) {
	t.Helper()
	if err := b.feed(t, string(specimens.Bytes(frames...))); err != nil {
		t.Fatalf("Feed: %v", err)
	}
}

// breaks: a frame by which the session is over, and what is behind that.
func (b *both) breaks(t *testing.T, why error, frames ...api.Frame) {
	t.Helper()
	stream := frames[len(frames)-1].Head.Stream
	b.feed(t, string(specimens.Bytes(frames...)))
	fails(t, "Feed", b.s.Err(), &api.Violation{Stream: stream, Why: why})
}

// tickets: the lane must be this one.
func (b *both) tickets(t *testing.T, want ...api.Ticket) {
	t.Helper()
	if got := b.s.Tickets(); !slices.Equal(got, want) {
		t.Fatalf("Tickets: %v, want %v", got, want)
	}
}

// hexed: bytes written in base sixteen, with any spaces.
func hexed(text string) string {
	b, err := hex.DecodeString(strings.ReplaceAll(text, " ", ""))
	if err != nil {
		panic(err)
	}
	return string(b)
}

// small is the configuration of the chapter's examples.
func small() api.Config {
	return api.Config{Window: 4, Stage: 8, Frame: 3, Streams: 2, Backlog: 2, Pings: 1, Out: 64}
}

// changed: the small configuration with some of it otherwise.
func changed(how func(cfg *api.Config)) api.Config {
	cfg := small()
	how(&cfg)
	return cfg
}

func client(t *testing.T) *both { t.Helper(); return made(t, small(), true) }

func server(t *testing.T) *both { t.Helper(); return made(t, small(), false) }

// The frames that the tests feed, by what they are for.

func data(id uint32, payload string) api.Frame { return specimens.Data(0, id, payload) }

func last(id uint32, payload string) api.Frame { return specimens.Data(api.FlagFIN, id, payload) }

func window(flags uint16, id, delta uint32) api.Frame {
	return specimens.Bare(api.TypeWindow, flags, id, delta)
}

func syn(id uint32) api.Frame { return window(api.FlagSYN, id, 0) }

func ack(id uint32) api.Frame { return window(api.FlagACK, id, 0) }

func rst(id uint32) api.Frame { return window(api.FlagRST, id, 0) }

func asks(token uint32) api.Frame { return specimens.Bare(api.TypePing, api.FlagSYN, 0, token) }

func answers(token uint32) api.Frame { return specimens.Bare(api.TypePing, api.FlagACK, 0, token) }

func away(code uint32) api.Frame { return specimens.Bare(api.TypeAway, 0, 0, code) }

// The tickets, likewise.

func synTicket(id uint32) api.Ticket { return api.Ticket{Kind: api.TicketSYN, Stream: id} }

func ackTicket(id uint32) api.Ticket { return api.Ticket{Kind: api.TicketACK, Stream: id} }

func rstTicket(id uint32) api.Ticket { return api.Ticket{Kind: api.TicketRST, Stream: id} }

func grantTicket(id, delta uint32) api.Ticket {
	return api.Ticket{Kind: api.TicketGrant, Stream: id, Value: delta}
}

func pingTicket(token uint32) api.Ticket { return api.Ticket{Kind: api.TicketPing, Value: token} }

func pongTicket(token uint32) api.Ticket { return api.Ticket{Kind: api.TicketPong, Value: token} }

func awayTicket(code uint32) api.Ticket { return api.Ticket{Kind: api.TicketAway, Value: code} }
