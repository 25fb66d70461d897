package proxy_test

import (
	"errors"
	"fmt"
	"runtime"
	"slices"
	"strings"
	"sync"
	"testing"

	"culvert/api"
	"culvert/draws"
	"culvert/proxy"
	"culvert/specimens"
)

// everyOrder: so many of these in every order, some of them several times, behind a beginning.
func everyOrder(t *testing.T, many int, begin func() *both, steps []func(b *both)) {
	t.Helper()
	orders := 1
	for range many {
		orders *= len(steps)
	}
	for order := range orders {
		b := begin()
		for range many {
			steps[order%len(steps)](b)
			order /= len(steps)
		}
		for range 2 {
			b.turn(t)
			b.tells(t)
		}
	}
}

func TestP31_1_EveryOrderOfFewCalls(t *testing.T) {
	does := func(moves ...move) func(b *both) { return func(b *both) { b.all(t, moves...) } }
	turn := func(b *both) { b.turn(t) }
	tick := func(b *both) { newDriver(b, 0, 0).tick(t, 10, map[string]int{}) }
	steps := []func(b *both){
		turn, tick, does(fronts(2)), does(pools(2)), does(asClient.does(opens())), does(asClient.does(writes(1, "\x01a\x01b"))), does(asClient.does(closes(1))),
		does(asClient.does(resets(1)), asClient.brings()), does(far(0).does(accepts(), reads(1, 9))), does(far(0).does(writes(1, "\x01x"))), does(far(0).does(closes(1))),
		does(far(0).does(resets(1)), far(0).brings()), does(cuts(0)), does(connects(0)), does(drops(1)),
	}
	everyOrder(t, 3, func() *both { return example(t) }, steps)
	everyOrder(t, 3, func() *both { return asked(t, 100) }, steps)
	everyOrder(t, 3, func() *both {
		cfg := wide()
		cfg.Stage, cfg.Window = 3, 3
		b := made(t, cfg, 1, 2, cfg, 3, 10)
		b.join(t, 2)
		b.question(t, 1, "\x01a")
		b.question(t, 3, "\x01b\x01")
		b.turns(t, 0)
		b.tell(t, 1, "\x01x")
		b.question(t, 3, "a")
		return b
	}, steps)
	everyOrder(t, 5, func() *both {
		b := asked(t, 100, "\x01b")
		b.question(t, 3, "\x01b\x01a")
		b.all(t, asClient.does(closes(1)))
		b.tell(t, 1, "\x01x")
		b.all(t, far(0).does(accepts(), writes(3, "\x01y"), closes(1)))
		return b
	}, []func(b *both){turn, tick, does(fronts(2)), does(pools(2)), does(far(0).does(closes(3))), does(asClient.does(writes(3, "\x01a")))})
}

// driver is a proxy whose client and whose far ends write messages, whole ones mostly, and one behind the other.
type driver struct {
	*both
	questions map[uint32]string    // of each client stream what isn't written yet
	answers   map[api.Place]string // of each far stream
	closing   map[api.Place]bool   // those that close behind it
	wild      int                  // how often something is written that may not be, and how harsh all is: up to 100
	long      int                  // how many bytes a long value has
}

func newDriver(b *both, wild, long int) *driver {
	return &driver{both: b, questions: map[uint32]string{}, answers: map[api.Place]string{}, closing: map[api.Place]bool{}, wild: wild, long: long}
}

// op: one operation at both worlds, which must answer alike.
func (d *driver) op(t *testing.T, e end, op api.LinkOp) (api.LinkResult, error) {
	t.Helper()
	got, err := e(d.both.world, op)
	want, wantErr := e(d.w.world, op)
	if fmt.Sprint(got, err) != fmt.Sprint(want, wantErr) {
		t.Fatalf("%+v: %+v, %v, and at the twin %+v, %v", op, got, err, want, wantErr)
	}
	return got, err
}

// drawnKey: one of few, seldom a long one.
func drawnKey(row *draws.Draws) string {
	switch row.Below(20) {
	case 0:
		return strings.Repeat("k", 100+row.Below(157))
	case 1, 2:
		return strings.Repeat("\x00", 1+row.Below(4))
	}
	return string(rune('a' + row.Below(5)))
}

// drawnQuestions: a few, seldom many.
func (d *driver) drawnQuestions(row *draws.Draws) string {
	many := row.Below(4)
	if row.Below(8) == 0 {
		many = 10 + row.Below(30)
	}
	bytes := ""
	for range many {
		bytes += message(drawnKey(row))
	}
	if row.Below(300) < d.wild {
		bytes += mistakes[row.Below(len(mistakes))].bytes
	}
	return bytes
}

// drawnAnswer: what a far end writes, and whether it closes behind it.
func (d *driver) drawnAnswer(row *draws.Draws) (string, bool) {
	switch row.Below(16) {
	case 0:
		return message(strings.Repeat("v", d.long)), true
	case 1:
		return message(""), true
	}
	if row.Below(200) < d.wild {
		return []string{"\x01x\x01y", "\x03yz", "", "\x80\x00", "\x01x\x80", "\x81\x80\x04"}[row.Below(6)], row.Below(2) == 0
	}
	return message(strings.Repeat(string(rune('A'+row.Below(5))), row.Below(7))), row.Below(9) > 0
}

// client: a step of the client's on one of its streams.
func (d *driver) client(t *testing.T, row *draws.Draws) {
	t.Helper()
	ids := d.front.End(0).Streams()
	if len(ids) == 0 || row.Below(6) == 0 {
		d.op(t, asClient, opens())
		return
	}
	id := ids[row.Below(len(ids))]
	switch n := row.Below(20); {
	case n < 7:
		d.op(t, asClient, reads(id, row.Below(80)))
	case n < 18:
		if d.questions[id] == "" {
			d.questions[id] = d.drawnQuestions(row)
		}
		r, _ := d.op(t, asClient, writes(id, d.questions[id]))
		d.questions[id] = d.questions[id][r.N:]
	case row.Below(300) < d.wild:
		d.op(t, asClient, resets(id))
	case d.questions[id] == "" || row.Below(300) < d.wild:
		d.op(t, asClient, closes(id))
	}
}

// farEnd: a step of a far end's on one of its streams.
func (d *driver) farEnd(t *testing.T, row *draws.Draws, k int) {
	t.Helper()
	v, _ := d.pool.Conn(k)
	ids := d.pool.Link(k).End(1).Streams()
	if len(ids) == 0 || row.Below(3) == 0 {
		d.op(t, far(k), accepts())
		return
	}
	at := api.Place{Conn: k, Life: v.Life, ID: ids[row.Below(len(ids))]}
	if _, begun := d.answers[at]; !begun {
		d.answers[at], d.closing[at] = d.drawnAnswer(row)
	}
	switch n := row.Below(20); {
	case n < 4:
		d.op(t, far(k), reads(at.ID, row.Below(300)))
	case n < 14:
		r, _ := d.op(t, far(k), writes(at.ID, d.answers[at]))
		d.answers[at] = d.answers[at][r.N:]
	case row.Below(200) < d.wild:
		d.op(t, far(k), resets(at.ID))
	case d.answers[at] == "" && d.closing[at] || row.Below(500) < d.wild:
		d.op(t, far(k), closes(at.ID))
	}
}

// step: something that may be done at a front and a pool, the proxy aside.
func (d *driver) step(t *testing.T, row *draws.Draws, conns int) {
	t.Helper()
	if row.Below(1500) < d.wild {
		handle := 1 + row.Below(40)
		if open := d.x.Open(); len(open) > 0 && row.Below(4) > 0 {
			handle = open[row.Below(len(open))].Handle
		}
		d.all(t, drawnHarm(row, conns, handle))
		return
	}
	k := row.Below(conns)
	switch n := row.Below(20); {
	case n < 6:
		d.client(t, row)
	case n < 12:
		d.farEnd(t, row, k)
	case n < 15:
		d.all(t, fronts(1+row.Below(3)))
	case n < 18:
		d.all(t, pools(1+row.Below(3)))
	default:
		e := []end{asClient, asServer, far(k), near(k)}[row.Below(4)]
		d.all(t, e.does([]api.LinkOp{steps(), sends(row.Below(30)), passes(row.Below(30))}[row.Below(3)]))
	}
}

// drawnHarm: something that others do where the proxy is the user, or by which a connection is over.
func drawnHarm(row *draws.Draws, conns, handle int) move {
	k, id := row.Below(conns), uint32(2*row.Below(12)+1)
	switch n := row.Below(20); {
	case n < 4:
		return asServer.does([]api.LinkOp{writes(id, "\x01"), reads(id, 3), closes(id), resets(id), accepts()}[row.Below(5)])
	case n < 8:
		return []move{taps(), drops(handle), shuts(handle), puts(handle, "mn"), gets(handle, 2)}[row.Below(5)]
	case n < 14:
		return connects(k)
	case n < 16:
		return cuts(k)
	}
	return drawnEnd(row, k)
}

// drawnEnd: something by which an end is over, or goes away.
func drawnEnd(row *draws.Draws, k int) move {
	switch row.Below(40) {
	case 0, 1:
		return near(k).does(leaves())
	case 2, 3:
		return far(k).does(leaves())
	case 4, 5, 6:
		return far(k).does(injects(specimens.Data(0, 99, "x")))
	case 7, 8, 9, 10:
		return far(k).does(injects(specimens.Bare(api.TypePing, api.FlagSYN, 0, 77)))
	case 11:
		return asServer.does(injects(specimens.Data(0, 99, "x")))
	case 12:
		return asServer.does(injects(specimens.Bare(api.TypeAway, 0, 0, 2)))
	case 13:
		return asClient.does(leaves())
	case 14:
		return asServer.does(leaves())
	case 15:
		return asClient.does(api.LinkOp{Kind: api.DoCut})
	}
	return connects(k)
}

// drawnConfig: small numbers, so that each bound is met often, or great ones, so that none is.
func drawnConfig(row *draws.Draws) api.Config {
	size := func() int {
		switch row.Below(4) {
		case 0:
			return 1 + row.Below(6)
		case 1:
			return 1 + row.Below(100)
		case 2:
			return 500 + row.Below(700)
		}
		return 1 << 17
	}
	return api.Config{
		Window: size(), Stage: size(), Frame: min(size(), 1<<16),
		Streams: 4 + row.Below(7), Backlog: 1 + row.Below(5), Pings: 1, Out: size(),
	}
}

func drawnDriver(t *testing.T, row *draws.Draws, conns, wild int) *driver {
	t.Helper()
	cfg := drawnConfig(row)
	per := 1 + row.Below(min(cfg.Backlog, cfg.Streams/2))
	weight := []int{1, 8, 12, 20, 30, 1000, 1 << 30}[row.Below(7)]
	long := []int{20, 130, 600, 65536, 65537}[row.Below(5)]
	if cfg.Window < 500 {
		long = min(long, 600)
	}
	return newDriver(made(t, drawnConfig(row), conns, per, cfg, weight, 1+row.Below(30)), wild, long)
}

// Drawn runs of two proxies side by side, with all that may be done at a front and at a pool, by others too.
func TestP31_1_DrawnRuns(t *testing.T) {
	story := map[string]int{}
	for begin := range 600 {
		row := draws.Draws(begin)
		wild, conns := []int{0, 10, 30, 80}[row.Below(4)], 1+row.Below(3)
		two := []*driver{drawnDriver(t, &row, conns, wild), drawnDriver(t, &row, conns, wild)}
		for range 700 {
			d := two[row.Below(2)]
			switch n := row.Below(40); {
			case n < 8:
				d.turnTold(t, story)
			case n < 9:
				d.tick(t, 1+row.Below(12), story)
			default:
				d.step(t, &row, conns)
			}
		}
		two[0].tells(t)
		two[1].tells(t)
	}
	for _, what := range []string{
		"given", "found", "found ahead of the question's end", "too old", "too heavy for the cache", "a key goes for another", "the pool refuses", "over",
		"a list is full", "a question waits with another one", "an answer isn't taken whole", "an asking is over for which nobody waits",
		"an asker goes with the front", "an asking goes with the front", "an asker goes, and questions of it wait",
		"an asker goes: a question isn't whole", "an asker goes: the front's Read", "an asker goes: a question may not be",
		"an asker goes: the front's Write", "an asker goes: all is answered",
		"an asking fails at its Write or Close", "an asking fails at its end", "an asking fails at its Read", "an asking fails at what it is told",
	} {
		if story[what] < 10 {
			t.Errorf("%s: only %d times, of %v", what, story[what], story)
		}
	}
}

// tick: one Tick, which must answer as the words do, and how many keys went by it.
func (d *driver) tick(t *testing.T, n int, story map[string]int) {
	t.Helper()
	want, wantErr := d.w.Tick(n)
	got, err := d.x.Tick(n)
	if got != want || !alike(err, wantErr) {
		t.Fatalf("Tick(%d): %d, %v, want %d, %v", n, got, err, want, wantErr)
	}
	d.tells(t)
	story["too old"] += got
}

// turnTold: one Turn, and what came about in it.
func (d *driver) turnTold(t *testing.T, story map[string]int) {
	t.Helper()
	n, err := d.turn(t)
	d.tells(t)
	for what, times := range d.w.story {
		story[what] += times
	}
	story["given"] += n
	if err != nil {
		story["over"]++
	}
}

// talk is a front's client and a pool's far ends, with a proxy between: what they ask, tell and hear is noted.
type talk struct {
	*world
	x        *proxy.Proxy
	lists    map[uint32]*list       // by the front's streams
	tellings map[api.Place]*telling // by the far streams
	told     map[string][]string    // by key: the values that far ends have told whole, with the end behind it
	lies     bool                   // a key has another value each time, and far ends don't keep to the form
	found    int
	refused  int
	ends     int
}

// list is what the client asks on one stream.
type list struct {
	keys         []string
	rest         string // what isn't written yet
	heard        string
	closed, over bool
}

// telling is what a far end has heard and tells on one stream.
type telling struct {
	heard string
	begun bool
	key   string
	value string // what it tells if it keeps to the form
	sent  string
	rest  string
}

func newTalk(t *testing.T, row *draws.Draws, conns int, lies bool) *talk {
	t.Helper()
	cfg := drawnConfig(row)
	w := newWorld(t, drawnConfig(row), conns, 1+row.Below(min(cfg.Backlog, cfg.Streams/2)), cfg)
	x := newProxy(t, w, []int{1, 8, 30, 1000}[row.Below(4)], 1+row.Below(30))
	return &talk{world: w, x: x, lists: map[uint32]*list{}, tellings: map[api.Place]*telling{}, told: map[string][]string{}, lies: lies}
}

// truth: what every far end that is true says of a key.
func truth(key string) string { return strings.Repeat(key, len(key)%4) + "!" }

// value: what a far end says of it now.
func (k *talk) value(key string) string {
	if k.lies {
		return fmt.Sprint(key, ":", len(k.tellings))
	}
	return truth(key)
}

// turn: one Turn; what can be looked at is held against P31.4 and P31.5.
func (k *talk) turn(t *testing.T) {
	t.Helper()
	k.x.Turn()
	seen := map[string]bool{}
	for _, key := range k.x.Cached() {
		if seen[key] || len(k.told[key]) == 0 {
			t.Fatalf("P31.5: %q is cached, and nobody has told it whole", key)
		}
		seen[key] = true
	}
	for _, one := range k.x.Open() {
		if seen[one.Key] {
			t.Fatalf("P31.4: %q is asked for, and cached or asked for: %q, %v", one.Key, k.x.Cached(), k.x.Open())
		}
		seen[one.Key] = true
	}
}

// asks: the client writes more of what it asks on a stream, and perhaps asks more.
func (k *talk) asks(row *draws.Draws, id uint32, many int) {
	l := k.lists[id]
	if l == nil || l.closed {
		return
	}
	if l.rest == "" {
		for range many {
			key := drawnKey(row)
			l.keys = append(l.keys, key)
			l.rest += message(key)
		}
	}
	r, _ := k.front.Do(writes(id, l.rest))
	l.rest = l.rest[r.N:]
}

func (k *talk) closes(id uint32) {
	if l := k.lists[id]; l != nil && l.rest == "" && !l.closed {
		_, err := k.front.Do(closes(id))
		l.closed = err == nil
	}
}

// hears: the client reads; what it has got on the stream is a beginning of the answers to its questions, and true.
func (k *talk) hears(t *testing.T, id uint32, n int) {
	t.Helper()
	r, err := k.front.Do(reads(id, n))
	l := k.lists[id]
	if l == nil {
		return
	}
	before, _, _ := cutUp(l.heard, 1<<17)
	l.heard += string(r.Data)
	answers, rest, _ := cutUp(l.heard, 1<<17)
	if len(answers) > len(l.keys) {
		t.Fatalf("P31.2: %d answers, and %d questions", len(answers), len(l.keys))
	}
	for i := len(before); i < len(answers); i++ {
		k.judges(t, l.keys[i], answers[i])
	}
	if errors.Is(err, api.ErrEOF) {
		l.over = true
		k.ends++
		if len(answers) != len(l.keys) || rest != "" || !l.closed {
			t.Fatalf("P31.2: the end, behind %d answers to %d questions", len(answers), len(l.keys))
		}
	}
}

// judges: may this key be answered so?
func (k *talk) judges(t *testing.T, key, answer string) {
	t.Helper()
	switch {
	case answer == "\x01":
		k.refused++
		return
	case answer == "" || answer[0] != 0:
		t.Fatalf("P31.3: %q is answered by %q", key, answer)
	case !k.lies && answer[1:] != truth(key):
		t.Fatalf("P31.3: %q is answered by %q, and true is %q", key, answer[1:], truth(key))
	case !slices.Contains(k.told[key], answer[1:]):
		t.Fatalf("P31.5: %q is answered by %q, and told were %q", key, answer[1:], k.told[key])
	}
	k.found++
}

// tells: a far end reads, and once it knows the question it answers.
func (k *talk) tells(row *draws.Draws, at api.Place) {
	s := k.tellings[at]
	if s == nil {
		s = &telling{}
		k.tellings[at] = s
	}
	r, _ := k.pool.Far(at.Conn, reads(at.ID, 1+row.Below(300)))
	s.heard += string(r.Data)
	if !s.begun {
		whole, _, _ := cutUp(s.heard, 256)
		if len(whole) == 0 {
			return
		}
		s.begun, s.key, s.value = true, whole[0], k.value(whole[0])
		s.rest = message(s.value)
		if k.lies {
			s.rest = []string{s.rest, s.rest, s.rest, s.rest[:len(s.rest)-1], s.rest + "\x00", s.rest + "\x01", ""}[row.Below(7)]
		}
	}
	r, _ = k.pool.Far(at.Conn, writes(at.ID, s.rest))
	s.sent, s.rest = s.sent+s.rest[:r.N], s.rest[r.N:]
	if s.rest == "" && (!k.lies || row.Below(3) > 0) || k.lies && row.Below(40) == 0 {
		_, err := k.pool.Far(at.Conn, closes(at.ID))
		if err == nil && s.sent == message(s.value) {
			k.told[s.key] = append(k.told[s.key], s.value)
		}
	}
}

// places: all streams that the far ends have accepted.
func (k *talk) places(conns int) []api.Place {
	var all []api.Place
	for c := range conns {
		v, _ := k.pool.Conn(c)
		for _, id := range k.pool.Link(c).End(1).Streams() {
			all = append(all, api.Place{Conn: c, Life: v.Life, ID: id})
		}
	}
	return all
}

// step: something drawn that lawful users do.
func (k *talk) step(t *testing.T, row *draws.Draws, conns int) {
	t.Helper()
	ids, places := k.front.End(0).Streams(), k.places(conns)
	if len(ids) == 0 || row.Below(16) == 0 {
		if r, err := k.front.Do(opens()); err == nil {
			k.lists[r.ID] = &list{}
		}
		return
	}
	id, c := ids[row.Below(len(ids))], row.Below(conns)
	switch row.Below(16) {
	case 0, 1, 2:
		k.asks(row, id, row.Below(5))
	case 3, 4:
		k.hears(t, id, row.Below(40))
	case 5:
		if row.Below(3) == 0 {
			k.closes(id)
		}
	case 6, 7, 8:
		k.pool.Far(c, accepts())
		if len(places) > 0 {
			k.tells(row, places[row.Below(len(places))])
		}
	case 9:
		e := []end{asClient, asServer, far(c), near(c)}[row.Below(4)]
		e.does([]api.LinkOp{steps(), sends(row.Below(30)), passes(row.Below(30))}[row.Below(3)])(k.world)
	case 10, 11:
		fronts(1)(k.world)
	case 12, 13:
		pools(1)(k.world)
	default:
		k.turn(t)
	}
}

// breaks: something by which a question's or an answer's way is broken.
func (k *talk) breaks(row *draws.Draws, conns int) {
	c := row.Below(conns)
	ids, places := k.front.End(0).Streams(), k.places(conns)
	switch n := row.Below(8); {
	case n < 1 && len(ids) > 0:
		asClient.does(resets(ids[row.Below(len(ids))]))(k.world)
	case n < 2 && len(places) > 0:
		at := places[row.Below(len(places))]
		far(at.Conn).does(resets(at.ID))(k.world)
	case n < 3:
		k.pool.Cut(c)
	case n < 4:
		far(c).does(leaves())(k.world)
	case n < 5:
		if open := k.x.Open(); len(open) > 0 {
			k.pool.Reset(open[row.Below(len(open))].Handle)
		}
	default:
		k.pool.Connect(c)
	}
}

// P31.2 to P31.5 by their own words, with far ends that are true, and with such as lie; ways are broken all the time, or never.
func TestP31_3_TrueAnswersInTheirOrder(t *testing.T) {
	for mode := range 4 {
		lies, breaks := mode&1 == 1, mode&2 == 2
		found, refused, ends := 0, 0, 0
		for begin := range 150 {
			row := draws.Draws(4*begin + mode)
			conns := 1 + row.Below(3)
			k := newTalk(t, &row, conns, lies)
			for range 1200 {
				k.step(t, &row, conns)
				if breaks && row.Below(40) == 0 {
					k.breaks(&row, conns)
				}
				if row.Below(60) == 0 {
					k.x.Tick(1 + row.Below(9))
				}
			}
			found, refused, ends = found+k.found, refused+k.refused, ends+k.ends
		}
		if found < 1000 || refused < 100 || ends < 100 {
			t.Errorf("lies %v, breaks %v: only %d found, %d refused, %d ends", lies, breaks, found, refused, ends)
		}
	}
}

// Where nothing is broken and all go on, each question is answered at last, and each end is told.
func TestP31_2_AllIsAnswered(t *testing.T) {
	found, refused, ends := 0, 0, 0
	for begin := range 200 {
		row := draws.Draws(begin)
		conns := 1 + row.Below(3)
		k := newTalk(t, &row, conns, false)
		for range row.Below(600) {
			k.step(t, &row, conns)
		}
		for n := 0; k.isUnanswered(); n++ {
			if n > 20000 {
				t.Fatalf("run %d: behind %d rounds somebody has no answer: %v", begin, n, k.x.Open())
			}
			k.goesOn(t, &row, conns)
		}
		k.turn(t)
		if n := k.x.Held(); n != 0 || len(k.front.End(1).Streams()) > 0 {
			t.Fatalf("run %d: %d bytes are held", begin, n)
		}
		found, refused, ends = found+k.found, refused+k.refused, ends+k.ends
	}
	if found < 1000 || refused < 100 || ends < 100 {
		t.Errorf("only %d found, %d refused, %d ends", found, refused, ends)
	}
}

func (k *talk) isUnanswered() bool {
	for _, l := range k.lists {
		if !l.over {
			return true
		}
	}
	return false
}

// goesOn: all that may be done by all.
func (k *talk) goesOn(t *testing.T, row *draws.Draws, conns int) {
	t.Helper()
	for _, id := range k.front.End(0).Streams() {
		k.asks(row, id, 0)
		k.closes(id)
		k.hears(t, id, 1<<20)
	}
	fronts(1)(k.world)
	k.turn(t)
	pools(1)(k.world)
	for c := range conns {
		for _, err := k.pool.Far(c, accepts()); err == nil; {
			_, err = k.pool.Far(c, accepts())
		}
	}
	for _, at := range k.places(conns) {
		k.tells(row, at)
	}
}

// P31.6: what was answered stays as it was, whatever is done behind it, and what is written over it is seen by nobody.
func TestP31_6_NewMemory(t *testing.T) {
	b := asked(t, 100, "\x01b\x01a")
	b.tellAll(t, 1, "\x01x")
	open := b.x.Open()
	b.turns(t, 1)
	b.question(t, 3, "\x01b\x01c\x01a")
	b.turns(t, 0)
	again, keys := b.x.Open(), b.x.Cached()
	want := []api.Asked{{Key: "a", Handle: 1, Waiting: []uint32{1, 1}}, {Key: "b", Handle: 2, Waiting: []uint32{1}}}
	if !same(open, want) {
		t.Errorf("what was answered is %v, and was %v", open, want)
	}
	more, others := b.x.Open(), b.x.Cached()
	writeOver(again, keys)
	want = []api.Asked{{Key: "b", Handle: 2, Waiting: []uint32{1, 3}}, {Key: "c", Handle: 3, Waiting: []uint32{3}}}
	if !same(more, want) || !slices.Equal(others, []string{"a"}) {
		t.Errorf("%v, %q", more, others)
	}
	writeOver(more, others)
	b.tells(t)
	b.asks(t, want...)
	one := b.x.Open() // the lists of one answer share nothing
	ids := append(one[0].Waiting, 7, 8, 9)
	clear(ids[:cap(ids)])
	if !slices.Equal(one[1].Waiting, []uint32{3}) {
		t.Errorf("%v", one)
	}
	b.tells(t)
}

// P31.6: neither what a far end wrote nor what the client reads is what the cache keeps.
func TestP31_6_ValuesAreNobodyElses(t *testing.T) {
	b := asked(t, 100, "\x01a")
	value := []byte("\x03xyz")
	for _, w := range []*world{b.world, b.w.world} {
		w.pool.Far(0, api.LinkOp{Kind: api.DoWrite, ID: 1, Data: value})
	}
	specimens.Spoil(value)
	b.all(t, far(0).does(closes(1)), pools(4))
	b.turns(t, 2)
	b.all(t, fronts(3))
	for range 3 {
		asClient(b.w.world, reads(1, 99))
		r, _ := asClient(b.world, reads(1, 99))
		specimens.Spoil(r.Data)
		b.question(t, 1, "\x01a")
		b.turns(t, 1)
		b.hears(t, 1, "\x04\x00xyz")
	}
}

// held: the bytes that are in use.
func held() int {
	runtime.GC()
	runtime.GC()
	var m runtime.MemStats
	runtime.ReadMemStats(&m)
	return int(m.HeapAlloc)
}

// What was asked and answered goes, whether it was given or an asker went with it; the cache keeps what it has room for.
func TestP31_1_WhatIsHeldGoes(t *testing.T) {
	for _, way := range []string{"answered", "the client resets", "the front is cut", "all are refused"} {
		w := newWorld(t, roomy(8), 1, 9, roomy(9))
		x := newProxy(t, w, 100, 10)
		value := message(strings.Repeat("v", 60000))
		before := held()
		for id := uint32(1); id < 16; id += 2 {
			asClient.does(opens(), writes(id, "\x01a"+strings.Repeat("\x01b", 15)))(w)
		}
		fronts(20)(w)
		x.Turn()
		pools(3)(w)
		far(0).does(accepts(), accepts(), writes(3, value), closes(3), writes(1, value[:50000]))(w)
		pools(5)(w)
		x.Turn()
		if n, want := x.Held(), 8*16+8*15*60000+50000; n != want || held()-before < 60000+50000 {
			t.Fatalf("%s: Held %d, want %d; %d bytes are in use", way, n, want, held()-before)
		}
		switch way {
		case "answered":
			far(0).does(writes(1, value[50000:]), closes(1))(w)
			pools(4)(w)
		case "the client resets":
			for id := uint32(1); id < 16; id += 2 {
				asClient.does(resets(id))(w)
			}
			fronts(9)(w)
			far(0).does(resets(1))(w)
			pools(2)(w)
		case "the front is cut":
			asClient.does(api.LinkOp{Kind: api.DoCut})(w)
		case "all are refused":
			far(0).does(resets(1))(w)
			pools(4)(w)
		}
		for range 200 {
			x.Turn()
			fronts(3)(w)
			for id := uint32(1); id < 16; id += 2 {
				asClient.does(reads(id, 1<<20))(w)
			}
		}
		pools(4)(w)
		x.Turn()
		if grown := held() - before; x.Held() != 0 || len(x.Open()) != 0 || grown > 40000 {
			t.Errorf("%s: Held %d, %v, %d bytes are in use", way, x.Held(), x.Open(), grown)
		}
		runtime.KeepAlive(x)
		runtime.KeepAlive(w)
		runtime.KeepAlive(value)
	}
}

// An outbox of which most was taken keeps not much more than the rest.
func TestP31_1_WhatWasTakenIsNotKept(t *testing.T) {
	cfg := roomy(8)
	cfg.Stage = 65530
	w := newWorld(t, cfg, 1, 9, roomy(9))
	x := newProxy(t, w, 100, 10)
	for id := uint32(1); id < 16; id += 2 {
		asClient.does(opens(), writes(id, "\x01a"))(w)
	}
	fronts(20)(w)
	x.Turn()
	pools(3)(w)
	far(0).does(accepts(), writes(1, message(strings.Repeat("v", 65536))), closes(1))(w)
	pools(5)(w)
	x.Turn()
	fronts(30)(w)
	before := held()
	if n := x.Held(); n != 8*(65540-65530) {
		t.Fatalf("Held %d", n)
	}
	x.Turn()
	if freed := before - held(); x.Held() != 0 || freed > 40000 {
		t.Errorf("Held %d, and %d bytes went", x.Held(), freed)
	}
	runtime.KeepAlive(x)
	runtime.KeepAlive(w)
}

// However many askers, questions and answers came and went, what is kept is no more than those that are there.
func TestP31_1_WhatIsKeptDoesNotGrow(t *testing.T) {
	const turns = 2000
	w := newWorld(t, roomy(4), 1, 4, roomy(4))
	x := newProxy(t, w, 300, 10)
	next, key, asked := uint32(1), 0, uint32(1)
	churn := func() {
		for n := range turns {
			key++
			asClient.does(opens(), writes(next, message(fmt.Sprint("key ", key))+"\x05part"))(w)
			fronts(3)(w)
			x.Turn()
			pools(2)(w)
			far(0).does(accepts())(w)
			switch n % 3 {
			case 0:
				asClient.does(resets(next))(w)
				far(0).does(resets(asked))(w)
			case 1:
				far(0).does(writes(asked, message("a value")), closes(asked), reads(asked, 99), reads(asked, 99))(w)
			case 2:
				far(0).does(resets(asked))(w)
			}
			fronts(3)(w)
			pools(3)(w)
			x.Turn()
			fronts(3)(w)
			asClient.does(resets(next))(w)
			fronts(3)(w)
			x.Turn()
			fronts(3)(w)
			pools(3)(w)
			far(0).does(reads(asked, 99), reads(asked, 99), reads(asked, 99))(w)
			pools(3)(w)
			next, asked = next+2, asked+2
			x.Tick(1)
		}
	}
	churn()
	before := held()
	churn()
	if c, a, r := x.Count(); c != 0 || a < turns/2 || r < turns/2 {
		t.Fatalf("Count: %d, %d, %d", c, a, r)
	}
	if grown := held() - before; grown > 1<<17 {
		t.Errorf("%d askers keep %d bytes", turns, grown)
	}
	runtime.KeepAlive(x)
	runtime.KeepAlive(w)
}

// An asker whose Close fails at the end goes too: else all that ever came would be kept.
func TestP31_1_AskersThatOthersHaveClosedAreNotKept(t *testing.T) {
	const many = 3000
	w := newWorld(t, roomy(4), 1, 4, roomy(4))
	x := newProxy(t, w, 300, 10)
	next := uint32(1)
	churn := func() {
		for range many {
			asClient.does(opens())(w)
			fronts(2)(w)
			x.Turn()
			asServer.does(closes(next))(w)
			asClient.does(closes(next))(w)
			fronts(3)(w)
			x.Turn()
			fronts(2)(w)
			asClient.does(reads(next, 9))(w)
			next += 2
		}
	}
	churn()
	before := held()
	churn()
	if grown := held() - before; grown > 1<<17 || len(w.front.End(1).Streams()) > 0 {
		t.Errorf("%d askers keep %d bytes", many, grown)
	}
	runtime.KeepAlive(x)
	runtime.KeepAlive(w)
}

// A thousand askers of one key, and of a key each.
func TestP31_1_ManyAskers(t *testing.T) {
	const many = 1000
	b := made(t, roomy(many), 4, 250, roomy(250), 1<<20, 10)
	b.join(t, many)
	for i := range many {
		b.all(t, asClient.does(writes(uint32(2*i+1), "\x01a"+message(fmt.Sprint(i)))))
	}
	b.all(t, fronts(many))
	b.turns(t, 0)
	open := b.x.Open()
	if len(open) != many || len(open[0].Waiting) != many {
		t.Fatalf("%d are asked", len(open))
	}
	b.counts(t, 0, 0, 1) // no stream is left for the last one
	b.all(t, pools(300), asClient.does(resets(999), resets(1)), fronts(3))
	b.turns(t, 0)
	b.tellAll(t, 1, "\x01x")
	b.turns(t, many-2+1)
	b.counts(t, 0, many-2, 1)
	b.all(t, cuts(1), cuts(2))
	b.turns(t, many/2-1) // the key of 1 was asked at the connection 1, and that of 999 at 0
	b.all(t, asClient.does(api.LinkOp{Kind: api.DoCut}))
	b.fails(t, api.ErrCut)
	b.asks(t)
}

// Two proxies at one front and one pool: each by the words alone, with what the other leaves it.
func TestP31_1_TwoProxiesOfOneFront(t *testing.T) {
	b := made(t, wide(), 2, 3, roomy(6), 30, 10)
	second := &both{b.world, newProxy(t, b.world, 20, 5), newPlain(b.w.world, 20, 5)}
	two := []*both{b, second}
	rows := draws.Draws(1)
	most := 0
	for n := range 400 {
		b.all(t, asClient.does(opens(), writes(uint32(rows.Below(n/8+2)*2+1), message(drawnKey(&rows)))), fronts(1+n%2))
		two[rows.Below(2)].turn(t)
		b.tells(t)
		second.tells(t)
		k, id := rows.Below(2), uint32(rows.Below(n/16+2)*2+1)
		b.all(t, pools(1+n%2), far(0).does(accepts()), far(1).does(accepts()), far(k).does(writes(id, "\x01x"), closes(id)))
		if n%7 == 6 {
			id := uint32(rows.Below(n/8+2)*2 + 1)
			b.all(t, asClient.does(closes(id)), asClient.does(reads(id, 99)))
			id = uint32(rows.Below(n/8+2)*2 + 1)
			b.all(t, asClient.does(resets(id)))
		}
		most = max(most, min(len(b.x.Open()), len(second.x.Open())))
	}
	if most == 0 || len(b.x.Cached()) == 0 || len(second.x.Cached()) == 0 {
		t.Errorf("%d; %v, %v", most, b.x.Cached(), second.x.Cached())
	}
}

// The front may be a connection of the pool itself, so that a question begets another of the same key, which waits for it.
func TestP31_1_AFrontOfThePoolItself(t *testing.T) {
	b := made(t, wide(), 2, 4, roomy(6), 100, 10)
	for _, w := range []*world{b.world, b.w.world} {
		w.front = w.pool.Link(0)
	}
	b.x = newProxy(t, b.world, 100, 10)
	b.all(t, taps(), puts(1, "\x01a\x01b\x01c"))
	most := 0
	for n := range 90 {
		b.turn(t)
		b.tells(t)
		most = max(most, len(b.x.Open()))
		b.all(t, pools(1+n%2), far(1).does(accepts(), writes(uint32(n/9*2+1), message("an answer")), closes(uint32(n/9*2+1))))
		if n%9 == 8 {
			b.all(t, puts(1, message(string(rune('d'+n/9)))), gets(1, 20))
		}
	}
	if most < 3 {
		t.Errorf("only %d are asked at one time", most)
	}
	b.all(t, cuts(0))
	b.fails(t, api.ErrCut)
}

// R9: what is told hangs on nothing but the calls, nor on other proxies.
func TestR9_ProxiesAtTheSameTime(t *testing.T) {
	told := make([]string, 8)
	var all sync.WaitGroup
	for i := range told {
		all.Go(func() { told[i] = history(draws.Draws(i % 2)) })
	}
	all.Wait()
	for i, text := range told {
		if text != told[i%2] {
			t.Errorf("number %d tells something else", i)
		}
	}
	if told[0] == told[1] {
		t.Error("both rows make the same")
	}
}

// history: what a proxy tells while drawn things are done with its front and its pool.
func history(row draws.Draws) string {
	var told strings.Builder
	t := &testing.T{}
	k := newTalk(t, &row, 3, true)
	for n := range 900 {
		k.step(t, &row, 3)
		if n%40 == 39 {
			k.breaks(&row, 3)
		}
		if n%5 == 0 {
			told.WriteString(fmt.Sprintln(k.x.Turn()))
			told.WriteString(fmt.Sprintln(k.x.Count()))
			told.WriteString(fmt.Sprintln(k.x.Tick(n % 3)))
			told.WriteString(fmt.Sprintln(k.x.Open(), k.x.Cached(), k.x.Held(), k.world.seen()))
		}
	}
	return told.String()
}
