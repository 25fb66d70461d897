package session_test

import (
	"fmt"
	"math"
	"runtime"
	"slices"
	"strings"
	"sync"
	"testing"

	"culvert/api"
	"culvert/draws"
	"culvert/frame"
	"culvert/session"
	"culvert/specimens"
)

// call is one of the calls of which every order is tried.
type call func(t *testing.T, b *both)

func feeds(frames ...api.Frame) call {
	text := string(specimens.Bytes(frames...))
	return func(t *testing.T, b *both) { b.feed(t, text) }
}

func writes(id uint32, p string) call { return func(t *testing.T, b *both) { b.write(t, id, p) } }

func readsUpTo(id uint32, n int) call { return func(t *testing.T, b *both) { b.read(t, id, n) } }

func closes(id uint32) call { return func(t *testing.T, b *both) { b.close(t, id) } }

func resets(id uint32) call { return func(t *testing.T, b *both) { b.reset(t, id) } }

func opensOne(t *testing.T, b *both) { b.open(t) }

func acceptsOne(t *testing.T, b *both) { b.accept(t) }

func pingsOnce(t *testing.T, b *both) { b.ping(t) }

func goesAway(t *testing.T, b *both) { b.goAway(t) }

func stepsOnce(t *testing.T, b *both) { b.step(t) }

func isCut(t *testing.T, b *both) { b.cut(t) }

// everyOrder: behind each of the beginnings, so many of the calls in every order, some of them several times.
func everyOrder(t *testing.T, cfg api.Config, client bool, begins [][]call, calls []call, many int) {
	t.Helper()
	orders := 1
	for range many {
		orders *= len(calls)
	}
	for _, begin := range begins {
		for order := range orders {
			b := &both{p: newPlain(cfg, client), quick: true}
			b.s, _ = session.New(cfg, client)
			for _, do := range begin {
				do(t, b)
			}
			for range many {
				calls[order%len(calls)](t, b)
				order /= len(calls)
			}
			b.same(t) // what stands behind fewer calls is seen in another order
			for b.step(t) {
			}
			b.take(t, 1<<20)
		}
	}
}

// tight is a configuration in which all bounds are near.
func tight() api.Config {
	return api.Config{Window: 2, Stage: 2, Frame: 2, Streams: 1, Backlog: 1, Pings: 1, Out: 30}
}

func TestP18_8_EveryOrderOfCallsOfAServer(t *testing.T) {
	accepted := []call{feeds(syn(1)), acceptsOne}
	calls := []call{
		feeds(syn(1)), feeds(specimens.Data(api.FlagSYN, 3, "c")), feeds(data(1, "a")), feeds(last(1, "")),
		feeds(rst(1)), feeds(window(0, 1, 1)), feeds(away(0)), acceptsOne,
		writes(1, "ab"), readsUpTo(1, 9), closes(1), resets(1), goesAway, stepsOnce, isCut,
	}
	everyOrder(t, tight(), false, [][]call{accepted}, calls, 4)
	everyOrder(t, tight(), false, [][]call{
		{},
		append(accepted[:2:2], stepsOnce, writes(1, "x"), feeds(data(1, "yz")), readsUpTo(1, 1)),
		append(accepted[:2:2], goesAway, resets(1)),
	}, calls, 3)
}

func TestP18_8_EveryOrderOfCallsOfAClient(t *testing.T) {
	opened := []call{opensOne, stepsOnce}
	calls := []call{
		opensOne, feeds(ack(1)), feeds(specimens.Data(api.FlagACK|api.FlagFIN, 1, "a")), feeds(rst(1)),
		feeds(window(0, 1, 1)), feeds(away(0)), feeds(away(2)), pingsOnce, feeds(answers(1)), feeds(asks(1)),
		writes(1, "ab"), readsUpTo(1, 9), closes(1), resets(1), stepsOnce, isCut,
	}
	everyOrder(t, tight(), true, [][]call{opened}, calls, 4)
	everyOrder(t, tight(), true, [][]call{
		{},
		append(opened[:2:2], writes(1, "x"), feeds(specimens.Data(api.FlagACK, 1, "yz")), readsUpTo(1, 1)),
		{opensOne, closes(1), stepsOnce, stepsOnce, feeds(last(1, "z"))},
	}, calls, 3)
}

// drawnConfig: small numbers, so that the bounds are met often.
func drawnConfig(row *draws.Draws) api.Config {
	return api.Config{
		Window: 1 + row.Below(1+row.Below(20)), Stage: 1 + row.Below(12), Frame: 1 + row.Below(6),
		Streams: 1 + row.Below(4), Backlog: 1 + row.Below(3), Pings: 1 + row.Below(2),
		Out: 1 + row.Below(1+row.Below(100)), Skip: row.Below(3),
	}
}

// user makes a session's calls, and keeps what came of them.
type user struct {
	*both
	row    *draws.Draws
	taken  map[uint32]string
	gave   map[uint32]string
	closed map[uint32]bool
	told   map[uint32]bool
}

func newUser(t *testing.T, cfg api.Config, client bool, row *draws.Draws) *user {
	t.Helper()
	return &user{made(t, cfg, client), row, map[uint32]string{}, map[uint32]string{}, map[uint32]bool{}, map[uint32]bool{}}
}

// some: the number of a stream, mostly of one that is there.
func (u *user) some() uint32 {
	all := slices.Concat(u.p.table, u.p.table, u.p.waits)
	if len(all) == 0 || u.row.Below(12) == 0 {
		return uint32(u.row.Below(12))
	}
	return all[u.row.Below(len(all))].id
}

func (u *user) writeSome(t *testing.T, id uint32) {
	t.Helper()
	p := strings.Repeat("abcdefghijklmnopqrstuvwxyz", 2)[len(u.taken[id])%26:][:u.row.Below(15)]
	n, _ := u.write(t, id, p)
	u.taken[id] += p[:n]
}

func (u *user) readSome(t *testing.T, id uint32, n int) {
	t.Helper()
	gave, err := u.read(t, id, n)
	u.gave[id] += gave
	if err == api.ErrEOF {
		u.told[id] = true
	}
}

func (u *user) closeSome(t *testing.T, id uint32) {
	t.Helper()
	if u.close(t, id) == nil {
		u.closed[id] = true
	}
}

// act: one drawn call that any user may make, without those that end something.
func (u *user) act(t *testing.T) {
	t.Helper()
	switch u.row.Below(12) {
	case 0:
		u.open(t)
	case 1, 2:
		u.accept(t)
	case 3, 4, 5:
		u.writeSome(t, u.some())
	case 6, 7, 8, 9:
		u.readSome(t, u.some(), []int{1, 1, 2, 3, 9, 0, -1, math.MaxInt}[u.row.Below(8)])
	case 10:
		if id := u.some(); u.told[id] || u.row.Below(5) == 0 {
			u.closeSome(t, id)
		}
	default:
		if u.row.Below(2) == 0 {
			u.ping(t)
		} else {
			u.pongs(t)
		}
	}
}

// wild sends a session frames that may be anything, mostly such that it isn't over at once.
type wild struct {
	*user
	wire string // bytes that were not fed
	all  string // bytes that were
	came map[uint32]string
	fin  map[uint32]bool
	seen int // how many of all are whole frames that came
}

func newWild(t *testing.T, row *draws.Draws) *wild {
	t.Helper()
	return &wild{user: newUser(t, drawnConfig(row), row.Below(2) == 0, row), came: map[uint32]string{}, fin: map[uint32]bool{}}
}

// drawn: a frame that names a stream near those that there are.
func (w *wild) drawn() api.Frame {
	row := w.row
	flags := []uint16{0, 0, 0, api.FlagACK, api.FlagFIN, api.FlagRST, api.FlagACK | api.FlagFIN}[row.Below(7)]
	payload := "ABCDEFGHIJKLMNOPQRSTUVWXYZABCDEF"[row.Below(26):][:row.Below(min(6, w.p.cfg.Frame+1))]
	id, length := w.some(), uint32([]int{0, 1, 1, 2, 3, math.MaxUint32}[row.Below(6)])
	switch row.Below(10) {
	case 0, 1:
		flags = []uint16{api.FlagSYN, api.FlagSYN, api.FlagSYN | api.FlagFIN}[row.Below(3)]
		id = w.p.marks[id%2] + uint32(row.Below(6))
	case 2:
		return []api.Frame{asks(uint32(row.Below(3))), answers(uint32(row.Below(4))), answers(w.p.token)}[row.Below(3)]
	case 3:
		if row.Below(10) == 0 {
			return away([]uint32{0, 0, 0, 0, 0, 0, 1, 2}[row.Below(8)])
		}
	case 4:
		if row.Below(50) == 0 {
			return specimens.Drawn(row, w.p.cfg.Frame)
		}
	}
	if flags == api.FlagRST {
		payload, length = "", 0
	}
	if row.Below(3) == 0 {
		return window(flags, id, length)
	}
	return specimens.Data(flags, id, payload)
}

// say: a frame more is on its way; most of those that would end the session are not sent.
func (w *wild) say() {
	for range 20 {
		next := string(specimens.Bytes(w.drawn()))
		if w.row.Below(200) == 0 { // a byte that is wrong
			next = next[:3] + string(rune(w.row.Below(128))) + next[4:]
		}
		try := w.p.copied()
		try.feed(w.wire + next)
		if try.over == nil || try.over == api.ErrPeer || w.row.Below(150) == 0 {
			w.wire += next
			return
		}
	}
}

// hear: some of the bytes under way.
func (w *wild) hear(t *testing.T) {
	t.Helper()
	n := min(len(w.wire), w.row.Below(1+w.row.Below(60)))
	w.feed(t, w.wire[:n])
	w.all += w.wire[:n]
	w.wire = w.wire[n:]
	w.count()
}

// count: the payloads of the Data frames that came for each stream, up to its last frame.
func (w *wild) count() {
	for {
		h, err := frame.Decode([]byte(w.all[w.seen:]))
		size := api.HeaderSize + frame.Size(h)
		if err != nil || frame.Check(h, w.p.cfg.Frame) != nil || len(w.all)-w.seen < size {
			return
		}
		if h.Type == api.TypeData && !w.fin[h.Stream] {
			w.came[h.Stream] += w.all[w.seen+api.HeaderSize : w.seen+size]
		}
		if h.Type == api.TypeData || h.Type == api.TypeWindow {
			w.fin[h.Stream] = w.fin[h.Stream] || h.Flags&api.FlagFIN != 0
		}
		w.seen += size
	}
}

// turn: one thing, of either end; P5 holds behind it.
func (w *wild) turn(t *testing.T) {
	t.Helper()
	switch n := w.row.Below(24); {
	case n < 10:
		w.act(t)
	case n < 14:
		w.say()
	case n < 19:
		w.hear(t)
	case n < 21:
		w.step(t)
	case n < 23:
		w.take(t, w.row.Below(40)-2)
	default:
		switch w.row.Below(12) {
		case 0:
			w.goAway(t)
		case 1, 2, 3, 4, 5:
			w.reset(t, w.some())
		case 6:
			if w.row.Below(6) == 0 {
				w.cut(t)
			}
		}
	}
	for id, gave := range w.gave {
		if !strings.HasPrefix(w.came[id], gave) {
			t.Fatalf("Reads of %d gave %q of %q", id, gave, w.came[id])
		}
		if w.told[id] && (!w.fin[id] || gave != w.came[id]) {
			t.Fatalf("the end of %d was told behind %q of %q", id, gave, w.came[id])
		}
	}
}

// P5: a hostile end, in any pieces, among any calls; two sessions by turns, which must not touch each other (R9).
func TestP5_HostileEndsHeldAgainstThePlainSession(t *testing.T) {
	row := draws.Draws(1805)
	var over [4]int
	for range 120 {
		pair := [2]*wild{newWild(t, &row), newWild(t, &row)}
		for range 500 {
			pair[row.Below(2)].turn(t)
		}
		for _, w := range pair {
			switch err := w.p.over; {
			case err == nil:
				over[0]++
			case err == api.ErrPeer:
				over[1]++
			case err == api.ErrCut:
				over[2]++
			default:
				over[3]++
			}
		}
	}
	if slices.Min(over[:]) < 3 {
		t.Errorf("how the runs have ended: %v: one kind is too seldom", over)
	}
}

// R4: calls that fail, in any number, leave a session that goes on as one that they weren't made of.
func TestR4_CallsThatFailChangeNothing(t *testing.T) {
	row := draws.Draws(184)
	for range 60 {
		w := newWild(t, &row)
		for range 150 {
			w.turn(t)
		}
		other := w.p.copied()
		for _, id := range []uint32{0, 1, 2, 3, 5, math.MaxUint32} {
			if among(other.table, id) != nil {
				continue
			}
			for _, call := range fourCalls {
				call.do(t, w.both, id)
			}
		}
		for _, st := range other.table {
			if st.closing && !st.wasReset {
				w.close(t, st.id)
				w.write(t, st.id, "abc")
			}
			w.read(t, st.id, -1)
		}
		if got, want := fmt.Sprint(told(w.p)), fmt.Sprint(told(other)); got != want {
			t.Fatalf("%s, want %s", got, want)
		}
		w.same(t)
	}
}

// told: a plain session as a text can show it.
func told(p *plain) []any {
	var all []any
	for _, st := range slices.Concat(p.table, p.waits) {
		all = append(all, *st)
	}
	return append(all, p.next, p.marks, p.lane, p.turns, p.pinged, p.answered, p.held, p.out, p.here, p.there, p.over)
}

// link is two ends with what is under way between them.
type link struct {
	ends    [2]*user
	pipes   [2]string // from the client, and from the server
	reset   map[uint32]bool
	unclean bool // there was a cut, a reset or an Away
}

func newLink(t *testing.T, row *draws.Draws) *link {
	t.Helper()
	cfg := drawnConfig(row)
	return &link{ends: [2]*user{newUser(t, cfg, true, row), newUser(t, cfg, false, row)}, reset: map[uint32]bool{}}
}

func (l *link) send(t *testing.T, e, n int) {
	t.Helper()
	l.pipes[e] += l.ends[e].take(t, n)
}

func (l *link) pass(t *testing.T, e, n int) {
	t.Helper()
	n = min(n, len(l.pipes[e]))
	l.ends[1-e].feed(t, l.pipes[e][:n])
	l.pipes[e] = l.pipes[e][n:]
}

// turn: one thing; how often what, hangs on the weights.
func (l *link) turn(t *testing.T, row *draws.Draws, weights [5]int) {
	t.Helper()
	e := row.Below(2)
	u := l.ends[e]
	n, kind := row.Below(36), 0
	for ; kind < 4 && n >= weights[kind]; kind++ {
		n -= weights[kind]
	}
	switch kind {
	case 0:
		u.act(t)
	case 1:
		u.step(t)
	case 2:
		l.send(t, e, []int{0, 1, 7, 30, 200}[row.Below(5)])
	case 3:
		l.pass(t, e, []int{0, 1, 7, 30, 200}[row.Below(5)])
	default:
		if l.unclean {
			l.end(t, row, e)
		}
	}
}

// end: something that ends a stream or more.
func (l *link) end(t *testing.T, row *draws.Draws, e int) {
	t.Helper()
	switch row.Below(40) {
	case 0:
		if row.Below(10) == 0 {
			l.ends[e].goAway(t)
		}
	case 1, 2, 3, 4, 5:
		id := l.ends[e].some()
		if l.ends[e].reset(t, id) == nil {
			l.reset[id] = true
		}
	}
}

func (l *link) cut(t *testing.T) {
	t.Helper()
	l.pipes = [2]string{}
	l.ends[0].cut(t)
	l.ends[1].cut(t)
}

// holds: P3, P4 and F4, of all streams and in both directions; and no end breaks the protocol.
func (l *link) holds(t *testing.T) {
	t.Helper()
	for e, u := range l.ends {
		if err := u.p.over; err != nil && err != api.ErrCut {
			t.Fatalf("a lawful end is over: %v", err)
		}
		other := l.ends[1-e]
		for id, gave := range other.gave {
			if !strings.HasPrefix(u.taken[id], gave) {
				t.Fatalf("stream %d: gave %q of %q", id, gave, u.taken[id])
			}
			if other.told[id] && (gave != u.taken[id] || !u.closed[id]) {
				t.Fatalf("stream %d: its end was told behind %q of %q", id, gave, u.taken[id])
			}
		}
		payloads, deltas := l.underWay(e), l.underWay(1-e)
		for _, st := range u.p.table {
			there := among(slices.Concat(other.p.table, other.p.waits), st.id)
			if there != nil && !l.reset[st.id] && !u.p.cut() {
				l.sum(t, u, st, there, payloads[st.id].payload, deltas[st.id].delta)
			}
		}
	}
}

func (l *link) sum(t *testing.T, u *user, here, there *plainStream, payload, delta int) {
	t.Helper()
	w := u.p.cfg.Window
	for _, k := range l.ends[1-slices.Index(l.ends[:], u)].p.lane {
		if k.Kind == api.TicketGrant && k.Stream == here.id {
			delta += int(k.Value)
		}
	}
	if payload+len(there.unread) > w {
		t.Fatalf("stream %d: more than the window was laid out and not read", here.id)
	}
	if sum := here.credit + payload + len(there.unread) + there.owed + delta; !here.lastOut && sum != w && !there.lastIn {
		t.Fatalf("stream %d: the sum is %d, not the window %d", here.id, sum, w)
	}
}

// passing is what is under way of one stream: bytes of payload, and what was granted.
type passing struct{ payload, delta int }

// underWay: what the frames bear that this end has laid out and that haven't come.
func (l *link) underWay(e int) map[uint32]passing {
	raw := l.ends[1-e].p.held + l.pipes[e] + l.ends[e].p.out
	all := map[uint32]passing{}
	for raw != "" {
		h, _ := frame.Decode([]byte(raw))
		p := all[h.Stream]
		p.payload += frame.Size(h)
		if h.Type == api.TypeWindow {
			p.delta += int(h.Length)
		}
		all[h.Stream] = p
		raw = raw[api.HeaderSize+frame.Size(h):]
	}
	return all
}

// fair: one fair round, in which as little as may be is done.
func (l *link) fair(t *testing.T) {
	t.Helper()
	for _, u := range l.ends {
		for _, err := u.accept(t); err == nil; _, err = u.accept(t) {
		}
		for _, id := range u.s.Streams() {
			u.readSome(t, id, 1)
		}
		u.step(t)
	}
	for e := range l.ends {
		l.send(t, e, 1+e)
		l.pass(t, e, 2)
	}
}

func (l *link) atRest() bool {
	for e, u := range l.ends {
		if u.p.allHeld()+len(l.pipes[e])+len(u.p.lane)+len(u.p.waits)+len(u.p.pinged) > 0 {
			return false
		}
		for _, st := range u.p.table {
			if st.closing && !st.lastOut || st.lastIn && !st.told {
				return false
			}
		}
	}
	return true
}

// finish: in fair rounds all that was taken is given, and each Close seen.
func (l *link) finish(t *testing.T) {
	t.Helper()
	for rounds := 0; !l.atRest(); rounds++ {
		if rounds > 5000 {
			t.Fatal("it doesn't come to rest")
		}
		l.fair(t)
		l.holds(t)
	}
	for e, u := range l.ends {
		other := l.ends[1-e]
		for id, taken := range u.taken {
			if other.gave[id] != taken || other.told[id] != u.closed[id] {
				t.Fatalf("stream %d: gave %q of %q, told %v, closed %v", id, other.gave[id], taken, other.told[id], u.closed[id])
			}
		}
	}
}

// Both ends of a connection in drawn interleavings: some seldom step, seldom hand on, or seldom read.
func TestP3_P4_LawfulEnds(t *testing.T) {
	row := draws.Draws(1834)
	delivered, gone := 0, 0
	for run := range 60 {
		l := newLink(t, &row)
		l.unclean = run%3 == 0
		var weights [5]int
		for i := range weights {
			weights[i] = 1 + row.Below(8)
		}
		weights[0] += 6
		cut := 300 + row.Below(5000) // most runs that may be cut are, at last
		for turn := range 3000 {
			l.ends[0].quick, l.ends[1].quick = turn%8 != 0, turn%8 != 0
			l.turn(t, &row, weights)
			if l.unclean && turn == cut {
				l.cut(t)
			}
			l.holds(t)
		}
		if !l.unclean {
			l.finish(t)
		}
		for _, u := range l.ends {
			for _, gave := range u.gave {
				delivered += len(gave)
			}
			for id := range u.told {
				if u.p.inTable(id) == nil {
					gone++
				}
			}
		}
	}
	if delivered < 4000 || gone < 200 {
		t.Errorf("only %d bytes were delivered, and %d streams came to their end", delivered, gone)
	}
}

// P18.13: what Feed makes of bytes doesn't hang on the pieces.
func TestP18_13_PiecesDontMatter(t *testing.T) {
	row := draws.Draws(1813)
	broken := 0
	for range 80 {
		cfg, isClient := drawnConfig(&row), row.Below(2) == 0
		w := &wild{user: begun(t, cfg, isClient, &row)}
		for range 30 {
			w.say()
		}
		w.wire += "\x00\x00\x00"[:row.Below(4)]
		whole := begun(t, cfg, isClient, &row)
		err := whole.s.Feed([]byte(w.wire))
		want := seen(whole.s, err)
		if err != nil {
			broken++
		}
		for _, most := range []int{1, 2, 5, 13, 40} {
			u := begun(t, cfg, isClient, &row)
			if got := seen(u.s, inPieces(t, u.s, w.wire, most, &row)); got != want {
				t.Fatalf("in pieces up to %d: %s, want %s", most, got, want)
			}
		}
	}
	if broken < 5 || broken > 75 {
		t.Errorf("%d of 80 were over", broken)
	}
}

// begun: a session with some streams and a ping, the same for the same configuration.
func begun(t *testing.T, cfg api.Config, client bool, row *draws.Draws) *user {
	t.Helper()
	u := newUser(t, cfg, client, row)
	for range cfg.Streams {
		u.open(t)
	}
	u.ping(t)
	for u.step(t) {
		u.take(t, 1<<20)
	}
	return u
}

// inPieces: how the last Feed ends, if the bytes come in pieces up to so many; behind one that fails all fail likewise.
func inPieces(t *testing.T, s *session.Session, all string, most int, row *draws.Draws) error {
	t.Helper()
	var err error
	for all != "" {
		n := min(len(all), 1+row.Below(most))
		behind := s.Feed([]byte(all[:n]))
		if err != nil && (behind == nil || behind.Error() != err.Error()) {
			t.Fatalf("Feed: %v behind %v", behind, err)
		}
		err, all = behind, all[n:]
	}
	return err
}

// seen: all that can be seen of a session, as a text.
func seen(s *session.Session, err error) string {
	here, there := s.Away()
	all := []any{err, s.Err(), here, there, s.Streams(), s.Waiting(), s.Tickets(), s.Pinged(), s.Pending(), s.Held(), s.Left()}
	for _, id := range slices.Concat(s.Streams(), s.Waiting()) {
		v, _ := s.View(id)
		all = append(all, v)
	}
	return fmt.Sprint(all...)
}

// P18.13: what is laid out doesn't hang on how many bytes each Take takes, where the same Steps answer true.
func TestP18_13_TakesDontMatter(t *testing.T) {
	row := draws.Draws(1314)
	bytes := 0
	for range 40 {
		cfg := drawnConfig(&row)
		cfg.Out = 1 << 20
		one, _ := session.New(cfg, true)
		other, _ := session.New(cfg, true)
		both := [2]*session.Session{one, other}
		var taken []byte
		for range 200 {
			id, text, kind := uint32(1+2*(cfg.Skip+row.Below(cfg.Streams))), "abcdefgh"[:row.Below(9)], row.Below(12)
			for _, s := range both {
				switch kind {
				case 0:
					s.Open()
				case 1:
					s.Ping()
				case 2, 3, 4, 5:
					s.Write(id, []byte(text))
				case 6:
					s.Feed(specimens.Bytes(window(0, id, 1)))
				default:
					s.Step()
				}
			}
			taken = append(taken, one.Take(row.Below(20))...)
		}
		taken = append(taken, one.Take(math.MaxInt)...)
		if all := other.Take(math.MaxInt); string(taken) != string(all) {
			t.Fatalf("% x, want % x", taken, all)
		}
		bytes += len(taken)
	}
	if bytes < 2000 {
		t.Errorf("only %d bytes were laid out", bytes)
	}
}

// R9: sessions in goroutines of their own answer as they do one behind the other.
func TestR9_SessionsAtTheSameTime(t *testing.T) {
	run := func(seed draws.Draws) string {
		s, _ := session.New(small(), seed%2 == 0)
		var out []byte
		for range 600 {
			switch seed.Below(7) {
			case 0:
				s.Open()
			case 1:
				s.Accept()
			case 2:
				s.Write(uint32(seed.Below(6)), []byte("abcdef"))
			case 3:
				b, _ := s.Read(uint32(seed.Below(6)), 3)
				out = append(out, b...)
			case 4:
				s.Step()
			case 5:
				out = append(out, s.Take(seed.Below(20))...)
			case 6:
				s.Feed(specimens.Bytes([]api.Frame{syn(uint32(1 + seed.Below(9))), data(uint32(seed.Below(6)), "xy"), asks(4)}[seed.Below(3)]))
			}
		}
		return string(out)
	}
	var want, got [16]string
	for i := range want {
		want[i] = run(draws.Draws(i))
	}
	var group sync.WaitGroup
	for i := range got {
		group.Go(func() { got[i] = run(draws.Draws(i)) })
	}
	group.Wait()
	if got != want {
		t.Error("they answer otherwise")
	}
}

// The greatest configuration: as many streams, pings and waiting ones as there may be, and no more.
func TestF9_TheLimits(t *testing.T) {
	greatest := api.Config{
		Window: api.MaxWindow, Stage: api.MaxStage, Frame: api.MaxFrame, Streams: api.MaxStreams,
		Backlog: api.MaxBacklog, Pings: api.MaxPings, Out: api.MaxOut, Skip: 5,
	}
	s, err := session.New(greatest, true)
	if err != nil {
		t.Fatal(err)
	}
	must := func(err error, want error) {
		t.Helper()
		fails(t, "the call", err, want)
	}
	for mine := range uint32(4096) {
		id, err := s.Open()
		if id != 11+2*mine {
			t.Fatalf("Open: %d, %v", id, err)
		}
		s.Step()
		s.Take(12)
		if mine >= 1023 { // as many as may wait do, from now on
			_, err := s.Open()
			must(err, api.ErrLimit)
			must(s.Feed(specimens.Bytes(ack(id-2046), data(id-2046, "a"))), nil)
		}
	}
	_, err = s.Open()
	must(err, api.ErrLimit)
	for theirs := range uint32(4096 + 1024) {
		must(s.Feed(specimens.Bytes(specimens.Data(api.FlagSYN, 2+2*theirs, "b"))), nil)
		if id, err := s.Accept(); theirs < 4096 && (id != 2+2*theirs || err != nil) {
			t.Fatalf("Accept: %d, %v", id, err)
		}
	}
	_, err = s.Accept()
	must(err, api.ErrLimit)
	for range 1024 {
		s.Ping()
	}
	_, err = s.Ping()
	must(err, api.ErrLimit)
	if len(s.Streams()) != 8192 || len(s.Waiting()) != 1024 || len(s.Pinged()) != 1024 || len(s.Tickets()) != 4096+1024 || s.Held() != 4096-1023+4096+1024 {
		t.Errorf("%d streams, %d wait, %d pings, %d tickets, %d bytes", len(s.Streams()), len(s.Waiting()), len(s.Pinged()), len(s.Tickets()), s.Held())
	}
	for id := uint32(2); id <= 8192; id += 2 {
		must(s.Reset(id), nil)
		must(s.Reset(id+9), nil)
	}
	_, err = s.Open()
	must(err, api.ErrLimit) // the RST tickets count
	_, err = s.Accept()
	must(err, api.ErrLimit)
	must(s.Feed(specimens.Bytes(syn(1<<31))), &api.Violation{Stream: 1 << 31, Why: api.ErrFlood})
}

// P18.12: as many tickets as there can be: of each stream all, the refused, the pings and the Away.
func TestP18_12_TicketsAtTheirMost(t *testing.T) {
	cfg := api.Config{Window: 1, Stage: 1, Frame: 1, Streams: 3, Backlog: 4, Pings: 2, Out: 1 << 10}
	b := made(t, cfg, false)
	for range 3 {
		b.open(t)
	}
	b.steps(t, 3)
	b.fed(t, syn(1), syn(3), syn(5))
	for id := uint32(1); id <= 6; id++ {
		b.fed(t, data(id, "a"))
	}
	for range 3 {
		b.accept(t)
	}
	for id := uint32(1); id <= 6; id++ {
		b.reads(t, id, "a", nil)
	}
	b.goAway(t)
	b.fed(t, syn(7), syn(9), syn(11), syn(13), asks(1), asks(2))
	b.ping(t)
	b.ping(t)
	if got := len(b.s.Tickets()); got != 3*3+4+2*2+1 {
		t.Fatalf("%d tickets", got)
	}
	for id := uint32(1); id <= 6; id++ {
		b.reset(t, id)
	}
	if got := len(b.s.Tickets()); got != 3*3+4+2*2+1 { // of mine an RST for a grant, of theirs an ACK and an RST
		t.Fatalf("%d tickets", got)
	}
	b.steps(t, 18)
}

// P18.12: as many bytes as there can be: all that is staged, unread, held by the decoder and to be taken.
func TestP18_12_HeldAtItsMost(t *testing.T) {
	cfg := api.Config{Window: 5, Stage: 7, Frame: 4, Streams: 2, Backlog: 3, Pings: 1, Out: 50}
	b := made(t, cfg, true)
	for range 2 {
		b.open(t)
	}
	b.steps(t, 2)
	for _, id := range []uint32{2, 4, 6, 8, 10} {
		b.fed(t, syn(id))
		b.accept(t)
	}
	b.steps(t, 2)
	for _, id := range []uint32{1, 3, 2, 4} {
		b.write(t, id, "abcdefg")
	}
	for b.step(t) {
	}
	for _, id := range []uint32{1, 3, 2, 4} {
		b.write(t, id, "abcdefg")
	}
	for _, id := range []uint32{1, 3, 2, 4, 6, 8, 10} {
		b.fed(t, data(id, "abcd"), data(id, "e"))
	}
	b.feed(t, string(specimens.Bytes(data(1, "abcd")))[:15])
	if want := 4*7 + 7*5 + 15 + b.s.Pending(); b.s.Held() != want || b.s.Pending() < 50 {
		t.Fatalf("Held: %d, want %d", b.s.Held(), want)
	}
}

// P18.12 means the memory, too: it goes with what it held.
func TestP18_12_TheMemoryGoes(t *testing.T) {
	cfg := api.Config{Window: 1 << 20, Stage: 1 << 20, Frame: 1 << 16, Streams: 20, Backlog: 20, Pings: 1, Out: 1 << 20}
	text := make([]byte, 1<<20)
	piece := specimens.Bytes(specimens.Data(0, 1, strings.Repeat("x", 1<<16)))
	for _, c := range []struct {
		name string
		by   func(s *session.Session)
	}{
		{"reset here", func(s *session.Session) {
			for id := uint32(1); id < 40; id += 2 {
				s.Reset(id)
			}
		}},
		{"reset there", func(s *session.Session) {
			for id := uint32(1); id < 40; id += 2 {
				s.Feed(specimens.Bytes(rst(id)))
			}
		}},
		{"a violation", func(s *session.Session) { s.Feed(specimens.Bytes(rst(99))) }},
		{"the other end's failure", func(s *session.Session) { s.Feed(specimens.Bytes(away(1))) }},
		{"read and laid out", func(s *session.Session) {
			for id := uint32(1); id < 40; id += 2 {
				s.Read(id, math.MaxInt)
			}
			for s.Step() {
				s.Take(math.MaxInt)
			}
		}},
	} {
		before := heap()
		s, _ := session.New(cfg, true)
		for range 20 {
			id, _ := s.Open()
			s.Step()
			s.Take(math.MaxInt)
			s.Write(id, text)
			piece[7] = byte(id)
			for range 16 {
				s.Feed(piece)
			}
		}
		if s.Held() != 40<<20 || heap()-before < 35<<20 {
			t.Fatalf("Held: %d", s.Held())
		}
		c.by(s)
		if rest := heap() - before; rest > 4<<20 {
			t.Errorf("%s: %d bytes of memory are kept", c.name, rest)
		}
		runtime.KeepAlive(s)
	}
}

// Nothing is kept of what is gone, not even a turn that nobody would see.
func TestP18_12_StreamsThatComeAndGoLeaveNothingBehind(t *testing.T) {
	const many = 30000
	for _, c := range []struct {
		name string
		by   func(s *session.Session, i uint32)
	}{
		{"opened, written and reset ahead of the SYN", func(s *session.Session, i uint32) {
			id, _ := s.Open()
			s.Write(id, []byte("abc"))
			s.Reset(id)
		}},
		{"opened, written and reset", func(s *session.Session, i uint32) {
			id, _ := s.Open()
			s.Step()
			s.Write(id, []byte("abc"))
			s.Reset(id)
			s.Step()
			s.Take(math.MaxInt)
		}},
		{"opened, and reset by the other end", func(s *session.Session, i uint32) {
			id, _ := s.Open()
			s.Step()
			s.Take(math.MaxInt)
			s.Write(id, []byte("abc"))
			s.Feed(specimens.Bytes(rst(id)))
			s.Read(id, 1)
		}},
		{"opened by the other end, and reset", func(s *session.Session, i uint32) {
			s.Feed(specimens.Bytes(syn(2*i), data(2*i, "abc"), rst(2*i)))
		}},
		{"refused", func(s *session.Session, i uint32) {
			s.GoAway()
			s.Feed(specimens.Bytes(syn(2*i), data(2*i, "abc")))
			s.Step()
			s.Take(math.MaxInt)
		}},
		{"accepted, and closed by both ends", func(s *session.Session, i uint32) {
			s.Feed(specimens.Bytes(syn(2*i), last(2*i, "abc")))
			s.Accept()
			s.Read(2*i, 9)
			s.Read(2*i, 9)
			s.Close(2 * i)
			for s.Step() {
				s.Take(math.MaxInt)
			}
		}},
		{"pings of both ends", func(s *session.Session, i uint32) {
			token, _ := s.Ping()
			s.Feed(specimens.Bytes(asks(i)))
			for s.Step() {
				s.Take(math.MaxInt)
			}
			s.Feed(specimens.Bytes(answers(token)))
			s.Pongs()
		}},
	} {
		s, _ := session.New(small(), true)
		c.by(s, 1) // what a session has when it is in use
		before := heap()
		for i := range uint32(many) {
			c.by(s, 2+i)
		}
		if s.Err() != nil || len(s.Streams())+len(s.Waiting())+s.Held() != 0 {
			t.Fatalf("%s: %v, %d streams, %d bytes", c.name, s.Err(), len(s.Streams()), s.Held())
		}
		if rest := heap() - before; rest > 10*many {
			t.Errorf("%s: %d bytes of memory are kept of %d", c.name, rest, many)
		}
		runtime.KeepAlive(s)
	}
}

// heap: how many bytes of memory live.
func heap() int {
	runtime.GC()
	var m runtime.MemStats
	runtime.ReadMemStats(&m)
	return int(m.HeapAlloc)
}
