package proxy_test

import (
	"errors"
	"fmt"
	"maps"
	"math"
	"slices"
	"strings"
	"testing"

	"culvert/api"
	"culvert/link"
	"culvert/pool"
	"culvert/proxy"
	"culvert/sentinels"
	"culvert/specimens"
)

// world is a front and a pool: all that a proxy touches.
type world struct {
	front *link.Link
	pool  *pool.Pool
	most  int // no handle is greater
}

// plain is what the chapter says of a proxy, word for word, with a cache that is a list.
type plain struct {
	*world
	weight, life, now       int
	things                  []thing // the one asked for last first
	askers                  map[uint32]*asker
	asked                   []*asking
	cached, pooled, refused int // the counts
	story                   map[string]int
}

type thing struct {
	key, value string
	until      int
}

type asker struct {
	fed    string // what came behind the messages that were whole
	list   []*question
	outbox string
	ended  bool
}

type question struct {
	id       uint32
	key      string
	looked   bool
	answered bool
	status   byte
	value    string
}

type asking struct {
	key    string
	handle int
	outbox string
	closed bool
	fed    string
	given  []string
	waits  []*question
}

func (w *plain) ids() []uint32 { return slices.Sorted(maps.Keys(w.askers)) }

// tells: one more of what has come about in this Turn, for the tests that count it.
func (w *plain) tells(what string) { w.story[what]++ }

func (w *plain) Turn() (int, error) {
	w.story = map[string]int{}
	if err := w.front.End(1).Err(); err != nil {
		for range w.askers {
			w.tells("an asker goes with the front")
		}
		clear(w.askers)
		for _, g := range w.asked {
			w.tells("an asking goes with the front")
			w.pool.Reset(g.handle)
		}
		w.asked = nil
		return 0, err
	}
	for {
		r, err := w.server(api.LinkOp{Kind: api.DoAccept})
		if err != nil {
			break
		}
		w.askers[r.ID] = &asker{}
	}
	for _, id := range w.ids() {
		w.hears(id)
	}
	for _, id := range w.ids() {
		for _, q := range w.askers[id].list {
			if !q.looked {
				w.looks(q)
			}
		}
	}
	for _, g := range slices.Clone(w.asked) {
		w.asks(g)
	}
	given := 0
	for _, id := range w.ids() {
		given += w.answers(id)
	}
	return given, nil
}

func (w *plain) server(op api.LinkOp) (api.LinkResult, error) {
	op.End = 1
	return w.front.Do(op)
}

// goes: the asker is let go.
func (w *plain) goes(id uint32, why string) {
	w.tells("an asker goes: " + why)
	delete(w.askers, id)
	for _, g := range w.asked {
		before := len(g.waits)
		g.waits = slices.DeleteFunc(g.waits, func(q *question) bool { return q.id == id })
		if len(g.waits) < before {
			w.tells("an asker goes, and questions of it wait")
		}
	}
}

func (w *plain) hears(id uint32) {
	a := w.askers[id]
	for !a.ended && len(a.list) < 16 {
		r, err := w.server(api.LinkOp{Kind: api.DoRead, ID: id, N: 512})
		switch {
		case errors.Is(err, api.ErrEOF):
			a.ended = true
			if a.fed != "" {
				w.server(api.LinkOp{Kind: api.DoReset, ID: id})
				w.goes(id, "a question isn't whole")
				return
			}
		case err != nil:
			w.goes(id, "the front's Read")
			return
		case len(r.Data) == 0:
			return
		default:
			whole, rest, may := cutUp(a.fed+string(r.Data), 256)
			if !may || slices.Contains(whole, "") {
				w.server(api.LinkOp{Kind: api.DoReset, ID: id})
				w.goes(id, "a question may not be")
				return
			}
			a.fed = rest
			for _, key := range whole {
				a.list = append(a.list, &question{id: id, key: key})
			}
		}
	}
	if !a.ended {
		w.tells("a list is full")
	}
}

// cutUp: the messages that the bytes are, what stands behind them, and whether that may be the beginning of another one.
func cutUp(b string, most int) (whole []string, rest string, may bool) {
	for {
		size, n := 0, 0
		for {
			if size == len(b) {
				return whole, b, true
			}
			c := int(b[size])
			n += c % 128 << (7 * size)
			size++
			if c < 128 {
				if c == 0 && size > 1 || n > most {
					return whole, b, false
				}
				break
			}
			if size == 3 {
				return whole, b, false
			}
		}
		if len(b) < size+n {
			return whole, b, true
		}
		whole = append(whole, b[size:size+n])
		b = b[size+n:]
	}
}

// message: the bytes that write it.
func message(text string) string {
	var b []byte
	n := len(text)
	for ; n > 127; n /= 128 {
		b = append(b, byte(n%128+128))
	}
	return string(append(b, byte(n))) + text
}

func (w *plain) looks(q *question) {
	q.looked = true
	if i := slices.IndexFunc(w.things, func(c thing) bool { return c.key == q.key }); i >= 0 {
		c := w.things[i]
		w.things = append([]thing{c}, slices.Delete(w.things, i, i+1)...)
		q.answered, q.status, q.value = true, 0, c.value
		w.cached++
		return
	}
	for _, g := range w.asked {
		if g.key == q.key {
			w.tells("a question waits with another one")
			g.waits = append(g.waits, q)
			return
		}
	}
	handle, err := w.pool.Open()
	if err != nil {
		w.tells("the pool refuses")
		q.answered, q.status = true, 1
		w.refused++
		return
	}
	w.asked = append(w.asked, &asking{key: q.key, handle: handle, outbox: message(q.key), waits: []*question{q}})
}

func (w *plain) asks(g *asking) {
	found, failed := false, false
	if g.outbox != "" {
		n, err := w.pool.Write(g.handle, []byte(g.outbox))
		g.outbox = g.outbox[n:]
		failed = err != nil
	}
	if !failed && g.outbox == "" && !g.closed {
		failed = w.pool.Close(g.handle) != nil
		g.closed = true
	}
	if failed {
		w.tells("an asking fails at its Write or Close")
	}
	for !found && !failed {
		b, err := w.pool.Read(g.handle, 512)
		if errors.Is(err, api.ErrEOF) {
			found = len(g.given) == 1 && g.fed == ""
			failed = !found
			if failed {
				w.tells("an asking fails at its end")
			}
			break
		}
		if err != nil {
			failed = true
			w.tells("an asking fails at its Read")
			break
		}
		if len(b) == 0 {
			return
		}
		whole, rest, may := cutUp(g.fed+string(b), 65536)
		g.given = append(g.given, whole...)
		g.fed = rest
		failed = !may || len(g.given) > 1
		if failed {
			w.tells("an asking fails at what it is told")
		}
	}
	w.settles(g, found)
}

// settles: the key is asked no more.
func (w *plain) settles(g *asking, found bool) {
	if len(g.waits) == 0 {
		w.tells("an asking is over for which nobody waits")
	}
	if found {
		w.tells("found")
		w.keeps(thing{g.key, g.given[0], w.now + w.life})
	}
	if !found || !g.closed {
		w.pool.Reset(g.handle)
	}
	if found && !g.closed {
		w.tells("found ahead of the question's end")
	}
	for _, q := range g.waits {
		q.answered = true
		if found {
			q.status, q.value = 0, g.given[0]
			w.pooled++
		} else {
			q.status = 1
			w.refused++
		}
	}
	w.asked = slices.DeleteFunc(w.asked, func(other *asking) bool { return other == g })
}

// keeps: the cache is handed a new thing; those that stand last go for it.
func (w *plain) keeps(c thing) {
	weighs := func(all []thing) int {
		sum := 0
		for _, c := range all {
			sum += len(c.key) + len(c.value)
		}
		return sum
	}
	if weighs([]thing{c}) > w.weight {
		w.tells("too heavy for the cache")
		return
	}
	w.things = append([]thing{c}, w.things...)
	for weighs(w.things) > w.weight {
		w.tells("a key goes for another")
		w.things = w.things[:len(w.things)-1]
	}
}

// answers: how many were given.
func (w *plain) answers(id uint32) int {
	a := w.askers[id]
	given := 0
	for {
		if a.outbox == "" && len(a.list) > 0 && a.list[0].answered {
			q := a.list[0]
			text := "\x01"
			if q.status == 0 {
				text = "\x00" + q.value
			}
			a.outbox = message(text)
			a.list = a.list[1:]
			given++
		}
		if a.outbox == "" {
			break
		}
		r, err := w.server(api.LinkOp{Kind: api.DoWrite, ID: id, Data: []byte(a.outbox)})
		if err != nil {
			w.goes(id, "the front's Write")
			return given
		}
		a.outbox = a.outbox[r.N:]
		if a.outbox != "" {
			w.tells("an answer isn't taken whole")
			return given
		}
	}
	if a.ended && len(a.list) == 0 {
		w.server(api.LinkOp{Kind: api.DoClose, ID: id})
		w.goes(id, "all is answered")
	}
	return given
}

func (w *plain) Tick(n int) (int, error) {
	if n < 1 || n > 1<<40-w.now {
		return 0, api.ErrRange
	}
	w.now += n
	before := len(w.things)
	w.things = slices.DeleteFunc(w.things, func(c thing) bool { return c.until <= w.now })
	return before - len(w.things), nil
}

func (w *plain) Cached() []string {
	var keys []string
	for _, c := range w.things {
		keys = append(keys, c.key)
	}
	return keys
}

func (w *plain) Open() []api.Asked {
	var all []api.Asked
	for _, g := range w.asked {
		one := api.Asked{Key: g.key, Handle: g.handle}
		for _, q := range g.waits {
			one.Waiting = append(one.Waiting, q.id)
		}
		all = append(all, one)
	}
	return all
}

func (w *plain) Held() int {
	sum := 0
	for _, a := range w.askers {
		sum += len(a.outbox) + len(a.fed)
		for _, q := range a.list {
			sum += len(q.key) + len(q.value)
		}
	}
	for _, g := range w.asked {
		sum += len(g.outbox) + len(g.fed)
		for _, m := range g.given {
			sum += len(m)
		}
	}
	return sum
}

// both is a proxy, and beside it the chapter's words over a twin of its front and its pool, to which all the same is done.
type both struct {
	*world
	x *proxy.Proxy
	w *plain
}

// wide is the configuration of the chapter's examples.
func wide() api.Config {
	return api.Config{Window: 64, Stage: 64, Frame: 64, Streams: 4, Backlog: 2, Pings: 1, Out: 64}
}

// roomy: one with room for so many streams in each direction, and for long messages.
func roomy(streams int) api.Config {
	return api.Config{Window: 1 << 20, Stage: 1 << 20, Frame: 1 << 16, Streams: 2 * streams, Backlog: streams, Pings: 1, Out: 1 << 20}
}

// newWorld: one that must come about, with a connection at each place.
func newWorld(t *testing.T, front api.Config, conns, per int, cfg api.Config) *world {
	t.Helper()
	l, err := link.New(front)
	if l == nil || err != nil {
		t.Fatalf("link.New(%+v): %v, %v", front, l, err)
	}
	p, err := pool.New(conns, per, cfg)
	if p == nil || err != nil {
		t.Fatalf("pool.New(%d, %d, %+v): %v, %v", conns, per, cfg, p, err)
	}
	for k := range conns {
		p.Connect(k)
	}
	return &world{front: l, pool: p}
}

// newProxy: one that must come about.
func newProxy(t *testing.T, w *world, weight, life int) *proxy.Proxy {
	t.Helper()
	x, err := proxy.New(w.front, w.pool, weight, life)
	if x == nil || err != nil {
		t.Fatalf("New(%d, %d): %v, %v", weight, life, x, err)
	}
	return x
}

func newPlain(w *world, weight, life int) *plain {
	return &plain{world: w, weight: weight, life: life, askers: map[uint32]*asker{}}
}

// made: a proxy between these worlds' fronts and pools.
func made(t *testing.T, front api.Config, conns, per int, cfg api.Config, weight, life int) *both {
	t.Helper()
	first, second := newWorld(t, front, conns, per, cfg), newWorld(t, front, conns, per, cfg)
	b := &both{first, newProxy(t, first, weight, life), newPlain(second, weight, life)}
	b.tells(t)
	return b
}

// turn: one Turn, which must answer as the words do.
func (b *both) turn(t *testing.T) (int, error) {
	t.Helper()
	want, wantErr := b.w.Turn()
	got, err := b.x.Turn()
	if got != want || !alike(err, wantErr) {
		t.Fatalf("Turn: %d, %v, want %d, %v", got, err, want, wantErr)
	}
	return got, err
}

// alike: is the one error the same as the other, whose sentinels are known?
func alike(err, want error) bool {
	var v *api.Violation
	if errors.As(want, &v) {
		return sentinels.Breach(err, v.Stream, v.Why)
	}
	for _, one := range []error{api.ErrCut, api.ErrPeer, api.ErrRange} {
		if errors.Is(want, one) {
			return sentinels.Just(err, one)
		}
	}
	return err == nil && want == nil
}

// turns: a Turn in which so many answers must be given; all else is looked at too.
func (b *both) turns(t *testing.T, want int) {
	t.Helper()
	if n, err := b.turn(t); n != want || err != nil {
		t.Fatalf("Turn: %d, %v, want %d", n, err, want)
	}
	b.tells(t)
}

// fails: a Turn that must fail so.
func (b *both) fails(t *testing.T, want error) {
	t.Helper()
	if n, err := b.turn(t); n != 0 || !errors.Is(err, want) {
		t.Fatalf("Turn: %d, %v, want %v", n, err, want)
	}
	b.tells(t)
}

// ticks: one Tick, which must answer so, and as the words do.
func (b *both) ticks(t *testing.T, n, want int, wantErr error) {
	t.Helper()
	plain, plainErr := b.w.Tick(n)
	got, err := b.x.Tick(n)
	if got != want || got != plain || !sentinels.Just(err, wantErr) || !alike(err, plainErr) {
		t.Fatalf("Tick(%d): %d, %v, want %d, %v, the words: %d, %v", n, got, err, want, wantErr, plain, plainErr)
	}
	b.tells(t)
}

// counts: what Count must answer.
func (b *both) counts(t *testing.T, cached, asked, refused int) {
	t.Helper()
	if c, a, r := b.x.Count(); c != cached || a != asked || r != refused {
		t.Fatalf("Count: %d, %d, %d, want %d, %d, %d", c, a, r, cached, asked, refused)
	}
}

// keeps: what Cached must answer.
func (b *both) keeps(t *testing.T, want ...string) {
	t.Helper()
	if got := b.x.Cached(); !slices.Equal(got, want) {
		t.Fatalf("Cached: %q, want %q", got, want)
	}
}

// asks: what Open must answer.
func (b *both) asks(t *testing.T, want ...api.Asked) {
	t.Helper()
	if got := b.x.Open(); !same(got, want) {
		t.Fatalf("Open: %v, want %v", got, want)
	}
}

// holds: what Held must answer.
func (b *both) holds(t *testing.T, want int) {
	t.Helper()
	if got := b.x.Held(); got != want {
		t.Fatalf("Held: %d, want %d", got, want)
	}
}

func same(a, b []api.Asked) bool {
	return slices.EqualFunc(a, b, func(x, y api.Asked) bool {
		return x.Key == y.Key && x.Handle == y.Handle && slices.Equal(x.Waiting, y.Waiting)
	})
}

// tells: all that can be looked at is as the words say, at the front and the pool too: so a Turn has done nothing to them but what the words do. The lists that are answered are written over.
func (b *both) tells(t *testing.T) {
	t.Helper()
	open, keys := b.x.Open(), b.x.Cached()
	if !same(open, b.w.Open()) || !slices.Equal(keys, b.w.Cached()) {
		t.Fatalf("Open: %v, want %v; Cached: %q, want %q", open, b.w.Open(), keys, b.w.Cached())
	}
	b.counts(t, b.w.cached, b.w.pooled, b.w.refused)
	b.holds(t, b.w.Held())
	seen := map[string]bool{}
	for _, key := range keys {
		seen[key] = true
	}
	for _, one := range open {
		if seen[one.Key] {
			t.Fatalf("P31.4: %q is asked for: %v, %q", one.Key, open, keys)
		}
		seen[one.Key] = true
	}
	writeOver(open, keys)
	if got, want := b.world.seen(), b.w.seen(); got != want {
		t.Fatalf("front and pool:\n%s, want\n%s", got, want)
	}
}

// writeOver: the lists, their spare room too.
func writeOver(open []api.Asked, keys []string) {
	open, keys = open[:cap(open)], keys[:cap(keys)]
	for i := range open {
		ids := open[i].Waiting[:cap(open[i].Waiting)]
		for j := range ids {
			ids[j] = 77
		}
		open[i] = api.Asked{Key: "zzz", Handle: -7}
	}
	for i := range keys {
		keys[i] = "zzz"
	}
}

// all: these moves at both worlds, which must answer alike.
func (b *both) all(t *testing.T, moves ...move) {
	t.Helper()
	for i, m := range moves {
		if got, want := m(b.world), m(b.w.world); got != want {
			t.Fatalf("move %d answers %s, and at the twin %s", i, got, want)
		}
	}
}

// seen: all that a world lets be seen, as a text.
func (w *world) seen() string {
	all := []any{seenEnd(w.front, 0), seenEnd(w.front, 1)}
	for k := 0; ; k++ {
		v, ok := w.pool.Conn(k)
		if !ok {
			break
		}
		all = append(all, k, v)
		if l := w.pool.Link(k); l != nil {
			all = append(all, seenEnd(l, 0), seenEnd(l, 1))
		}
	}
	for handle := max(1, w.most-50); handle <= w.most+5; handle++ {
		if at, ok := w.pool.Handle(handle); ok {
			all = append(all, handle, at)
			w.most = max(w.most, handle)
		}
	}
	return fmt.Sprint(all...)
}

func seenEnd(l *link.Link, e int) string {
	s := l.End(e)
	here, there := s.Away()
	all := []any{l.UnderWay(e), s.Err(), here, there, s.Left(), s.Streams(), s.Waiting(), s.Tickets(), s.Pending(), s.Held()}
	for _, id := range slices.Concat(s.Streams(), s.Waiting()) {
		v, _ := s.View(id)
		all = append(all, v)
	}
	return fmt.Sprintln(all...)
}

// move is something that is done with a front and a pool; it tells what came of it.
type move func(w *world) string

// end is who does an operation: the front's client, say.
type end func(w *world, op api.LinkOp) (api.LinkResult, error)

func client(w *world, op api.LinkOp) (api.LinkResult, error) {
	op.End = 0
	return w.front.Do(op)
}

func server(w *world, op api.LinkOp) (api.LinkResult, error) {
	op.End = 1
	return w.front.Do(op)
}

// far, near: that end of a pool's connection.

func far(k int) end {
	return func(w *world, op api.LinkOp) (api.LinkResult, error) { return w.pool.Far(k, op) }
}

func near(k int) end {
	return func(w *world, op api.LinkOp) (api.LinkResult, error) { return w.pool.Near(k, op) }
}

// does: these operations of an end, one behind the other.
func (e end) does(ops ...api.LinkOp) move {
	return func(w *world) string {
		var told strings.Builder
		for _, op := range ops {
			told.WriteString(fmt.Sprint(e(w, op)))
		}
		return told.String()
	}
}

// brings: an end lays out a frame, and all its bytes go over.
func (e end) brings() move {
	return e.does(steps(), sends(math.MaxInt), passes(math.MaxInt))
}

// asClient, asServer: for does and brings.
var (
	asClient = end(client)
	asServer = end(server)
)

// The operations, as they are handed to an end.

func opens() api.LinkOp           { return api.LinkOp{Kind: api.DoOpen} }
func accepts() api.LinkOp         { return api.LinkOp{Kind: api.DoAccept} }
func closes(id uint32) api.LinkOp { return api.LinkOp{Kind: api.DoClose, ID: id} }
func resets(id uint32) api.LinkOp { return api.LinkOp{Kind: api.DoReset, ID: id} }
func leaves() api.LinkOp          { return api.LinkOp{Kind: api.DoAway} }
func steps() api.LinkOp           { return api.LinkOp{Kind: api.DoStep} }
func sends(n int) api.LinkOp      { return api.LinkOp{Kind: api.DoSend, N: n} }
func passes(n int) api.LinkOp     { return api.LinkOp{Kind: api.DoPass, N: n} }

func writes(id uint32, text string) api.LinkOp {
	return api.LinkOp{Kind: api.DoWrite, ID: id, Data: []byte(text)}
}

func reads(id uint32, n int) api.LinkOp { return api.LinkOp{Kind: api.DoRead, ID: id, N: n} }

func injects(frames ...api.Frame) api.LinkOp {
	return api.LinkOp{Kind: api.DoInject, Data: specimens.Bytes(frames...)}
}

// fronts, pools, rounds: so many rounds there, or in both.

func fronts(n int) move {
	return func(w *world) string {
		told := ""
		for range n {
			told += fmt.Sprint(w.front.Round())
		}
		return told
	}
}

func pools(n int) move { return func(w *world) string { return fmt.Sprint(w.pool.Rounds(n)) } }

func rounds(n int) move {
	return func(w *world) string { return fronts(n)(w) + pools(n)(w) }
}

// What the pool's user may do beside the proxy.

func connects(k int) move {
	return func(w *world) string { return fmt.Sprint(w.pool.Connect(k)) }
}

func cuts(k int) move { return func(w *world) string { return fmt.Sprint(w.pool.Cut(k)) } }

func taps() move { return func(w *world) string { return fmt.Sprint(w.pool.Open()) } }

func drops(handle int) move {
	return func(w *world) string { return fmt.Sprint(w.pool.Reset(handle)) }
}

func shuts(handle int) move {
	return func(w *world) string { return fmt.Sprint(w.pool.Close(handle)) }
}

func puts(handle int, text string) move {
	return func(w *world) string { return fmt.Sprint(w.pool.Write(handle, []byte(text))) }
}

func gets(handle, n int) move {
	return func(w *world) string { return fmt.Sprint(w.pool.Read(handle, n)) }
}
