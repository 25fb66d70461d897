package relay_test

import (
	"errors"
	"math"
	"slices"
	"strings"
	"testing"

	"culvert/api"
	"culvert/relay"
	"culvert/sentinels"
	"culvert/specimens"
)

// example: a front and a pool as in the chapter's examples, with a relay of the size 2.
func example(t *testing.T) *both {
	t.Helper()
	return made(t, small(), 1, 1, small(), 2)
}

// paired: a front and a pool with room for four streams, so many of which are paired.
func paired(t *testing.T, streams, size int) *both {
	t.Helper()
	b := made(t, wide(4), 1, 4, wide(4), size)
	for range streams {
		b.all(t, client(opens()))
	}
	b.all(t, fronts(2*streams))
	b.turns(t, 0)
	if n := len(b.r.Pairs()); n != streams {
		t.Fatalf("%d pairs, want %d", n, streams)
	}
	b.all(t, pools(2*streams))
	for range streams {
		b.all(t, far(0, accepts()))
	}
	b.all(t, fronts(2*streams), pools(2*streams))
	return b
}

// says: an operation of one of the ends that must answer these bytes, and so.
func (b *both) says(t *testing.T, end func(op api.LinkOp) (api.LinkResult, error), op api.LinkOp, text string, want error) {
	t.Helper()
	if r, err := end(op); string(r.Data) != text || !sentinels.Just(err, want) {
		t.Fatalf("%+v: %q, %v, want %q, %v", op, r.Data, err, text, want)
	}
}

// client, far: what that end answers, of the relay's own world; the twin does the same.

func (b *both) client(op api.LinkOp) (api.LinkResult, error) {
	b.w.front.Do(op)
	return b.front.Do(op)
}

func (b *both) far(op api.LinkOp) (api.LinkResult, error) {
	b.w.pool.Far(0, op)
	return b.pool.Far(0, op)
}

// The chapter's examples, in their order.
func TestP30_1_Examples(t *testing.T) {
	b := example(t)
	b.all(t, client(opens()), client(writes(1, "abc")), client(opens()), fronts(3))
	b.turns(t, 2)
	b.pairs(t, api.Pair{Front: 1, Handle: 1})
	b.refuses(t, 3)
	b.refuses(t)
	b.turns(t, 1)
	if n := b.r.Held(); n != 0 {
		t.Errorf("Held: %d", n)
	}
	b.turns(t, 0)
	b.all(t, client(closes(1)), fronts(4))
	b.turns(t, 0)
	b.pairs(t, api.Pair{Front: 1, Handle: 1, UpDone: true})
	b.says(t, b.client, reads(3, 1), "", api.ErrReset)
	b.all(t, pools(4), far(0, accepts()))
	b.says(t, b.far, reads(1, 9), "abc", nil)
	b.says(t, b.far, reads(1, 9), "", api.ErrEOF)
	b.all(t, far(0, writes(1, "xyz")), far(0, closes(1)), pools(3))
	b.turns(t, 2)
	b.turns(t, 1)
	b.pairs(t, api.Pair{Front: 1, Handle: 1, UpDone: true})
	b.turns(t, 0)
	b.pairs(t)
	b.all(t, fronts(4))
	b.says(t, b.client, reads(1, 9), "xyz", nil)
	b.says(t, b.client, reads(1, 9), "", api.ErrEOF)
	b.tells(t)
}

func TestP30_1_New(t *testing.T) {
	w := newWorld(t, small(), 1, 1, small())
	for _, size := range []int{
		math.MinInt, -1 << 32, -1<<32 + 1, -1 << 20, -1, 0, 1, 2, 1<<20 - 1, 1 << 20, 1<<20 + 1, 1 << 21,
		1<<31 - 1, 1 << 31, 1<<32 - 1, 1 << 32, 1<<32 + 1, math.MaxInt,
	} {
		r, err := relay.New(w.front, w.pool, size)
		may := size >= 1 && size <= 1048576
		if (r != nil) != may || may && err != nil || !may && !sentinels.Just(err, api.ErrRange) {
			t.Errorf("New(%d): %v, %v", size, r, err)
		}
		for i, call := range []func() (*relay.Relay, error){
			func() (*relay.Relay, error) { return relay.New(nil, w.pool, size) },
			func() (*relay.Relay, error) { return relay.New(w.front, nil, size) },
			func() (*relay.Relay, error) { return relay.New(nil, nil, size) },
		} {
			if r, err := call(); r != nil || !sentinels.Just(err, api.ErrNil) {
				t.Errorf("New(%d), nil %d: %v, %v, want ErrNil", size, i, r, err)
			}
		}
	}
}

// A new relay does nothing to its front and its pool, whatever waits there, nor does it take over what others have accepted.
func TestP30_1_NewHasNoPairs(t *testing.T) {
	b := made(t, wide(4), 1, 4, wide(4), 3)
	b.all(t, taps(), client(opens()), client(opens()), fronts(2), server(accepts()))
	before := b.seen()
	r := newRelay(t, b.world, 3)
	if b.seen() != before || len(r.Pairs()) != 0 || len(r.Refused()) != 0 || r.Held() != 0 {
		t.Errorf("New has done something: %v", r.Pairs())
	}
	b.turns(t, 0)
	b.pairs(t, api.Pair{Front: 3, Handle: 2})
}

func TestR7_ANilRelayIsAnEmptyOne(t *testing.T) {
	var r *relay.Relay
	for range 2 {
		if n, err := r.Turn(); n != 0 || !sentinels.Just(err, api.ErrNil) {
			t.Errorf("Turn: %d, %v, want ErrNil", n, err)
		}
		if len(r.Pairs()) != 0 || len(r.Refused()) != 0 || r.Held() != 0 {
			t.Errorf("Pairs %v, Held %d", r.Pairs(), r.Held())
		}
	}
}

// tickets: what waits in an end's lane, as kinds and streams.
func tickets(all []api.Ticket) []uint32 {
	var told []uint32
	for _, one := range all {
		told = append(told, uint32(one.Kind), one.Stream)
	}
	return told
}

// What is refused was accepted, and is reset ahead of the next Accept.
func TestP30_1_WhatIsRefused(t *testing.T) {
	const ack, rst = uint32(api.TicketACK), uint32(api.TicketRST)
	spent := small()
	spent.Skip = 1<<31 - 1 // one id is left
	for name, b := range map[string]*both{
		"none":      made(t, small(), 2, 1, small(), 2),
		"draining":  made(t, small(), 2, 1, small(), 2),
		"full":      made(t, small(), 2, 1, small(), 2),
		"exhausted": made(t, small(), 1, 2, spent, 2),
	} {
		switch name {
		case "none":
			b.all(t, cuts(0), cuts(1))
		case "draining":
			b.all(t, near(0, leaves()), near(1, leaves()))
		case "full":
			b.all(t, taps(), taps())
		case "exhausted":
			b.all(t, taps())
		}
		b.all(t, client(opens()), client(writes(1, "abc")), client(closes(1)), client(opens()), fronts(4))
		b.turns(t, 0)
		if got := tickets(b.front.End(1).Tickets()); !slices.Equal(got, []uint32{ack, 1, rst, 1, ack, 3, rst, 3}) {
			t.Errorf("%s: tickets %v", name, got)
		}
		b.pairs(t)
		b.all(t, fronts(4))
		b.says(t, b.client, reads(1, 1), "", api.ErrReset)
		b.says(t, b.client, reads(3, 1), "", api.ErrReset)
		b.turns(t, 0)
		b.refuses(t, 1, 3)
		b.refuses(t)
		b.turns(t, 0)
	}
}

// The reset of one that is refused takes a place at the front till it is laid out, so that Accept fails, and the next one waits.
func TestP30_1_AcceptFailsWhereResetsWait(t *testing.T) {
	cfg := small()
	cfg.Streams = 1
	far := small()
	far.Streams = 2
	b := made(t, cfg, 1, 1, far, 2)
	b.all(t, taps()) // none but this
	b.all(t, client(injectedSYN(1)), server(injectedSYN(1)), server(injectedSYN(3)))
	b.turns(t, 0)
	b.refuses(t, 1)
	b.turns(t, 0)
	b.refuses(t)
	b.all(t, server(steps()), drops(1))
	b.turns(t, 0)
	b.refuses(t)
	b.all(t, server(steps()))
	b.turns(t, 0)
	b.refuses(t)
	b.pairs(t, api.Pair{Front: 3, Handle: 2})
}

// injectedSYN: the frame that opens a stream, by nobody.
func injectedSYN(id uint32) api.LinkOp {
	return injects(specimens.Bare(api.TypeWindow, api.FlagSYN, id, 0))
}

// Refused tells what was refused since it was asked last, of several Turns, and of a front that is over too.
func TestP30_1_RefusedSinceTheLastCall(t *testing.T) {
	b := made(t, wide(8), 1, 1, small(), 2)
	b.all(t, cuts(0))
	open := func(n int) {
		for range n {
			b.all(t, client(opens()))
		}
		b.all(t, fronts(2*n))
	}
	open(2)
	b.turns(t, 0)
	open(1)
	b.turns(t, 0)
	b.refuses(t, 1, 3, 5)
	open(1)
	b.all(t, connects(0))
	b.turns(t, 0)
	b.refuses(t)
	open(2)
	b.turns(t, 0)
	b.all(t, client(api.LinkOp{Kind: api.DoCut}))
	b.fails(t, api.ErrCut)
	b.pairs(t)
	b.refuses(t, 9, 11)
	b.fails(t, api.ErrCut)
	b.refuses(t)
}

// endings are ways in which the front is over.
var endings = []struct {
	moves []move
	why   error
}{
	{[]move{client(api.LinkOp{Kind: api.DoCut})}, api.ErrCut},
	{[]move{server(injects(specimens.Data(0, 99, "x")))}, api.ErrUnknown},
	{[]move{server(injects(specimens.Data(0, 1, "abc"), specimens.Data(0, 1, "def")))}, api.ErrWindow},
	{[]move{server(injects(specimens.Bare(api.TypeAway, 0, 0, 1)))}, api.ErrPeer},
	{[]move{server(injects(specimens.Bare(api.TypeAway, 0, 0, 2)))}, api.ErrPeer},
	{[]move{server(injects(specimens.Bare(api.TypeAway, 0, 0, 2))), client(api.LinkOp{Kind: api.DoCut})}, api.ErrPeer},
	{[]move{client(injects(specimens.Data(0, 98, "x"))), brings(client)}, api.ErrPeer},
}

// A front that is over: all pairs go with what they hold, and every handle is reset, by the front's numbers.
func TestP30_1_AFrontThatIsOver(t *testing.T) {
	for i, ending := range endings {
		b := made(t, wide(4), 2, 2, wide(4), 2)
		for id := uint32(1); id < 6; id += 2 {
			b.all(t, client(opens()), client(writes(id, "abcdefgh")))
		}
		b.all(t, fronts(9))
		b.turns(t, 6)
		b.all(t, pools(3), client(opens()), fronts(2), taps())
		before := b.r.Pairs()
		b.all(t, ending.moves...)
		b.pairs(t, before...) // till the next Turn
		for range 3 {
			n, err := b.turn(t)
			if n != 0 || !errors.Is(err, ending.why) || !sameError(err, b.front.End(1).Err()) {
				t.Fatalf("ending %d: Turn: %d, %v", i, n, err)
			}
			b.tells(t)
			b.pairs(t)
			b.refuses(t)
			if held := b.r.Held(); held != 0 {
				t.Fatalf("ending %d: Held: %d", i, held)
			}
		}
		for handle := 1; handle <= 3; handle++ {
			if _, ok := b.pool.Handle(handle); ok {
				t.Errorf("ending %d: %d is a handle", i, handle)
			}
		}
		if _, ok := b.pool.Handle(4); !ok {
			t.Errorf("ending %d: a handle of somebody else is none any more", i)
		}
	}
}

func sameError(err, want error) bool { return err.Error() == want.Error() && alike(err, want) }

// The resets of a front that is over stand in the pool in the order of the front's numbers.
func TestP30_1_TheOrderOfResets(t *testing.T) {
	const rst = uint32(api.TicketRST)
	b := paired(t, 4, 2)
	b.all(t, client(api.LinkOp{Kind: api.DoCut}))
	b.fails(t, api.ErrCut)
	if got := tickets(b.pool.Link(0).End(0).Tickets()); !slices.Equal(got, []uint32{rst, 1, rst, 3, rst, 5, rst, 7}) {
		t.Errorf("tickets %v", got)
	}
}

// Behind a cut of its connection a handle can't be reset, and stays; the pair goes all the same.
func TestP30_1_AFrontThatIsOverBehindACut(t *testing.T) {
	b := paired(t, 2, 2)
	b.all(t, cuts(0), client(api.LinkOp{Kind: api.DoCut}))
	b.fails(t, api.ErrCut)
	b.pairs(t)
	for handle := 1; handle <= 2; handle++ {
		if _, ok := b.pool.Handle(handle); !ok {
			t.Errorf("%d is no handle", handle)
		}
	}
}

// What is in no one's way goes through whole, in its order, whatever the size, the room to stage and the length of what is written; and then the end.
func TestP30_3_BothWaysWhole(t *testing.T) {
	const text = "abcdefghijklm"
	for size := 1; size <= 14; size++ {
		for stage := 1; stage <= 9; stage += 2 {
			for many := 0; many <= len(text); many++ {
				cfg := small()
				cfg.Stage = stage
				b := made(t, cfg, 1, 1, cfg, size)
				b.all(t, client(opens()))
				up, down := &writing{id: 1, rest: text[:many]}, &writing{id: 1, rest: text[len(text)-many:]}
				for range 200 {
					up.goOn(b.client)
					b.all(t, fronts(1))
					b.turn(t)
					b.all(t, pools(1))
					b.far(accepts())
					down.goOn(b.far)
					down.hear(b.client, 1+many%3)
					up.hear(b.far, 1+size%3)
				}
				b.tells(t)
				if up.heard != text[:many] || down.heard != text[len(text)-many:] || !up.told || !down.told || len(b.r.Pairs()) != 0 {
					t.Fatalf("size %d, stage %d: %+v, %+v", size, stage, up, down)
				}
			}
		}
	}
}

// writing is a text that is written at one end of a pair and read at the other.
type writing struct {
	id     uint32
	rest   string
	closed bool
	heard  string
	told   bool // the end
}

// goOn: as much as is taken is written, and the end behind it.
func (w *writing) goOn(end func(op api.LinkOp) (api.LinkResult, error)) {
	r, err := end(writes(w.id, w.rest))
	w.rest = w.rest[r.N:]
	if err == nil && w.rest == "" && !w.closed {
		_, err = end(closes(w.id))
		w.closed = err == nil
	}
}

func (w *writing) hear(end func(op api.LinkOp) (api.LinkResult, error), n int) {
	r, err := end(reads(w.id, n))
	w.heard += string(r.Data)
	w.told = w.told || errors.Is(err, api.ErrEOF)
}

// A direction holds as much as its size, and reads no more till some of it was taken.
func TestP30_2_ADirectionIsFull(t *testing.T) {
	b := made(t, wide(4), 1, 4, wide(4), 3)
	b.all(t, client(opens()))
	for range 20 {
		b.all(t, client(writes(1, "abcdefgh")), fronts(1))
		b.turn(t)
		b.tells(t)
	}
	b.pairs(t, api.Pair{Front: 1, Handle: 1, Up: 3})
	if v, _ := b.front.End(1).View(1); v.Unread+v.Owed != 4 || v.Left != 0 {
		t.Errorf("%+v", v)
	}
	for range 20 {
		b.all(t, pools(1))
		b.far(accepts())
		b.far(writes(1, "stuvwxyz"))
		b.turn(t)
		b.tells(t)
		b.all(t, fronts(1))
	}
	b.pairs(t, api.Pair{Front: 1, Handle: 1, Up: 3, Down: 3})
	if held := b.r.Held(); held != 6 {
		t.Errorf("Held: %d", held)
	}
}

// The end is handed on behind the last byte that is held, not ahead of it, and once.
func TestP30_1_TheEndBehindTheLastByte(t *testing.T) {
	cfg := wide(4)
	cfg.Stage = 1
	b := made(t, wide(4), 1, 4, cfg, 3)
	b.all(t, client(opens()), client(writes(1, "abc")), client(closes(1)), fronts(3))
	b.turns(t, 1)
	b.turns(t, 0) // the end is told
	b.pairs(t, api.Pair{Front: 1, Handle: 1, Up: 2})
	b.all(t, pools(2))
	b.turns(t, 1)
	b.pairs(t, api.Pair{Front: 1, Handle: 1, Up: 1})
	b.all(t, pools(1))
	b.turns(t, 1)
	b.pairs(t, api.Pair{Front: 1, Handle: 1, UpDone: true})
	b.all(t, pools(1))
	b.turns(t, 0)
	b.far(accepts())
	b.says(t, b.far, reads(1, 9), "abc", nil)
	b.says(t, b.far, reads(1, 9), "", api.ErrEOF)
	b.turns(t, 0)
	b.pairs(t, api.Pair{Front: 1, Handle: 1, UpDone: true})
}

// Where up is ended and down is done the front's stream may have left its table: what up still holds goes on all the same.
func TestP30_1_AFrontStreamThatHasLeft(t *testing.T) {
	cfg := wide(4)
	cfg.Stage = 1
	b := made(t, wide(4), 1, 4, cfg, 3)
	b.all(t, client(opens()), client(writes(1, "abc")), fronts(2))
	b.turns(t, 1)
	b.all(t, client(closes(1)), fronts(1), pools(1), far(0, accepts()), far(0, closes(1)), pools(2))
	b.turns(t, 1) // both ends are told, and down is done
	b.pairs(t, api.Pair{Front: 1, Handle: 1, Up: 1, DownDone: true})
	b.all(t, fronts(4))
	if ids := b.front.End(1).Streams(); len(ids) != 0 {
		t.Fatalf("the front has %v", ids)
	}
	b.turns(t, 0)
	b.pairs(t, api.Pair{Front: 1, Handle: 1, Up: 1, DownDone: true})
	b.all(t, pools(4))
	b.turns(t, 1)
	b.pairs(t)
	b.all(t, pools(3))
	b.says(t, b.far, reads(1, 9), "abc", nil)
	b.says(t, b.far, reads(1, 9), "", api.ErrEOF)
}

// Where down is ended and up is done the handle may be none: what down still holds goes on all the same.
func TestP30_1_AHandleThatHasGone(t *testing.T) {
	cfg := wide(4)
	cfg.Stage = 1
	b := made(t, cfg, 1, 4, wide(4), 3)
	b.all(t, client(opens()), fronts(2))
	b.turns(t, 0)
	b.all(t, client(closes(1)), fronts(2), pools(2), far(0, accepts()), far(0, writes(1, "xyz")), far(0, closes(1)), pools(3))
	b.turns(t, 1)
	b.pairs(t, api.Pair{Front: 1, Handle: 1, Down: 2, UpDone: true})
	b.turns(t, 0) // the end is told
	b.all(t, pools(3))
	if _, ok := b.pool.Handle(1); ok {
		t.Fatal("1 is a handle")
	}
	b.turns(t, 0)
	b.pairs(t, api.Pair{Front: 1, Handle: 1, Down: 2, UpDone: true})
	b.all(t, fronts(2))
	b.turns(t, 1)
	b.all(t, fronts(1))
	b.turns(t, 1)
	b.pairs(t)
	b.all(t, fronts(3))
	b.says(t, b.client, reads(1, 9), "xyz", nil)
	b.says(t, b.client, reads(1, 9), "", api.ErrEOF)
}

// breaks are things that break a pair of the front's stream 1 and the handle 1, both of which hold what was written; behind them the Turn lets so many bytes go on ahead of the break.
var breaks = map[string]struct {
	moves []move
	taken int
}{
	"the client resets":                           {[]move{client(resets(1)), brings(client)}, 0},
	"the far end resets":                          {[]move{far(0, resets(1)), brings(at(far, 0))}, 0},
	"both reset":                                  {[]move{client(resets(1)), brings(client), far(0, resets(1)), brings(at(far, 0))}, 0},
	"a cut":                                       {[]move{cuts(0)}, 0},
	"a violation at the far end":                  {[]move{far(0, injects(specimens.Data(0, 99, "x"))), brings(at(far, 0))}, 0},
	"a violation at the near end":                 {[]move{far(0, injects(specimens.Bare(api.TypePing, api.FlagSYN, 0, 77))), brings(at(far, 0))}, 0},
	"another connection at its place":             {[]move{cuts(0), connects(0)}, 0},
	"somebody else resets the handle":             {[]move{drops(1)}, 0},
	"somebody else resets the front's stream":     {[]move{server(resets(1))}, 0},
	"somebody else closes the handle":             {[]move{shuts(1)}, 0},
	"somebody else closes the front's stream":     {[]move{server(closes(1))}, 2},
	"the far end resets, and bytes wait to go":    {[]move{client(writes(1, "z")), fronts(2), far(0, resets(1)), brings(at(far, 0))}, 0},
	"the client resets behind its last frame":     {[]move{client(closes(1)), fronts(4), client(resets(1)), brings(client)}, 0},
	"the far end resets behind its last frame":    {[]move{far(0, closes(1)), pools(4), far(0, resets(1)), brings(at(far, 0))}, 0},
	"a cut behind the far end's last frame":       {[]move{far(0, closes(1)), pools(4), cuts(0)}, 0},
	"somebody else closes both, and nothing more": {[]move{shuts(1), server(closes(1))}, 0},
}

// What breaks a pair is told at both sides, and what the pair holds goes with it; the other pair, with the same handles' connection, goes on or breaks by itself.
func TestP30_4_WhatBreaksAPair(t *testing.T) {
	for name, c := range breaks {
		for _, size := range []int{1, 2, 9} {
			b := paired(t, 2, size)
			b.all(t, client(writes(1, "ab")), far(0, writes(1, "yz")), fronts(2), pools(2))
			b.all(t, c.moves...)
			if n := b.breaks(t, name); size > 1 && n != c.taken {
				t.Fatalf("%s, size %d: Turn: %d, want %d", name, size, n, c.taken)
			}
		}
	}
}

// The same, where nothing has come that could be read or written, and where the relay holds bytes that couldn't go on.
func TestP30_4_WhatBreaksAPairWithNothingOrMuch(t *testing.T) {
	for name, c := range breaks {
		b := paired(t, 2, 2)
		b.all(t, c.moves...)
		switch {
		case name == "a cut behind the far end's last frame": // whose end is told first
			b.turns(t, 0)
			b.breaks(t, name)
		case strings.HasPrefix(name, "somebody else closes"): // which is met where something is to be written
			b.turns(t, 0)
		default:
			b.breaks(t, name)
		}

		b = paired(t, 2, 2)
		for range 30 {
			b.all(t, client(writes(1, "abcdefgh")), far(0, writes(1, "stuvwxyz")), brings(client), brings(server), brings(at(far, 0)), brings(at(near, 0)))
			b.turn(t)
		}
		b.pairs(t, api.Pair{Front: 1, Handle: 1, Up: 2, Down: 2}, api.Pair{Front: 3, Handle: 2})
		b.all(t, c.moves...)
		b.breaks(t, name)
	}
}

// breaks: a Turn, in which the pair of 1 must break; how many bytes went on.
func (b *both) breaks(t *testing.T, name string) int {
	t.Helper()
	n, err := b.turn(t)
	if err != nil || slices.ContainsFunc(b.r.Pairs(), func(p api.Pair) bool { return p.Front == 1 }) {
		t.Fatalf("%s: Turn: %d, %v, %+v", name, n, err, b.r.Pairs())
	}
	b.tells(t)
	if v, _ := b.pool.Conn(0); slices.Contains(b.front.End(1).Streams(), 1) || v.Live && isHandle(b, 1) {
		t.Fatalf("P30.4: %s: a stream is left", name)
	}
	b.turn(t)
	b.tells(t)
	return n
}

// A reset of the front's stream, where both are ended and neither is done: up breaks ahead of its Write.
func TestP30_1_AResetBehindBothEnds(t *testing.T) {
	cfg := wide(4)
	cfg.Stage = 2
	for _, reset := range []bool{false, true} {
		b := made(t, cfg, 1, 4, cfg, 4)
		b.all(t, client(opens()), fronts(1))
		b.turns(t, 0)
		b.all(t, fronts(2), pools(2), far(0, accepts()), pools(2), client(writes(1, "ab")), far(0, writes(1, "yz")), fronts(1), pools(1))
		b.all(t, client(writes(1, "cd")), far(0, writes(1, "wx")), client(closes(1)), far(0, closes(1)), fronts(1), pools(1))
		b.turns(t, 4)
		b.turns(t, 0)
		b.pairs(t, api.Pair{Front: 1, Handle: 1, Up: 2, Down: 2})
		b.all(t, pools(1)) // so that up may go on
		if reset {
			b.all(t, client(resets(1)), brings(client))
			b.turns(t, 0)
			b.pairs(t)
			continue
		}
		b.turns(t, 2)
		b.pairs(t, api.Pair{Front: 1, Handle: 1, Down: 2, UpDone: true})
	}
}

func isHandle(b *both, handle int) bool {
	_, ok := b.pool.Handle(handle)
	return ok
}

// Reading with n 0 tells a reset where no byte is wanted: where the direction is full, and where it is ended.
func TestP30_4_AResetWhereNothingIsWanted(t *testing.T) {
	for name, c := range map[string]struct {
		ahead, reset []move
	}{
		"up is full":    {[]move{client(writes(1, "abcdefgh"))}, []move{client(resets(1)), brings(client)}},
		"up is ended":   {[]move{client(closes(1))}, []move{client(resets(1)), brings(client)}},
		"down is full":  {[]move{far(0, writes(1, "abcdefgh"))}, []move{far(0, resets(1)), brings(at(far, 0))}},
		"down is ended": {[]move{far(0, closes(1))}, []move{far(0, resets(1)), brings(at(far, 0))}},
	} {
		cfg := wide(4)
		cfg.Stage, cfg.Window = 2, 9
		b := made(t, cfg, 1, 4, cfg, 2)
		b.all(t, client(opens()), fronts(1))
		b.turns(t, 0)
		b.all(t, fronts(2), pools(2), far(0, accepts()), pools(2))
		for range 8 {
			b.all(t, c.ahead...)
			b.all(t, brings(client), brings(client), brings(at(far, 0)))
			b.turn(t)
			b.tells(t)
		}
		if n := len(b.r.Pairs()); n != 1 {
			t.Fatalf("%s: %d pairs", name, n)
		}
		b.all(t, c.reset...)
		b.turns(t, 0)
		b.pairs(t)
		if held := b.r.Held(); held != 0 {
			t.Errorf("%s: Held: %d", name, held)
		}
	}
}

// P7, P23.5: a cut of a pool's connection breaks its own pairs, behind what had come for them; those of the others go on.
func TestP30_4_ACutBehindWhatHadCome(t *testing.T) {
	b := made(t, wide(4), 2, 4, wide(4), 2)
	b.all(t, client(opens()), client(opens()), fronts(2))
	b.turns(t, 0)
	b.all(t, fronts(4), pools(2), far(0, accepts()), far(1, accepts()))
	b.all(t, far(0, writes(1, "abcd")), far(1, writes(1, "efgh")), pools(4), cuts(0))
	b.turns(t, 4) // two of each
	b.turns(t, 4)
	b.pairs(t, api.Pair{Front: 1, Handle: 1}, api.Pair{Front: 3, Handle: 2})
	b.turns(t, 0) // up has nothing to write; down reads that it was cut
	b.pairs(t, api.Pair{Front: 3, Handle: 2})
	b.all(t, client(writes(3, "go on")), fronts(8))
	b.turns(t, 2)
	b.says(t, b.client, reads(1, 9), "", api.ErrReset)
	b.says(t, b.client, reads(3, 9), "efgh", nil)
}

// On a connection that was cut behind the last frame the handle goes when its end is told, which no relay takes for a break till it wants to write there.
func TestP30_1_ACutBehindTheLastFrame(t *testing.T) {
	for _, closed := range []bool{true, false} {
		b := paired(t, 1, 9)
		if closed {
			b.all(t, client(closes(1)), fronts(3))
			b.turns(t, 0)
		}
		b.all(t, pools(3), far(0, writes(1, "yz")), far(0, closes(1)), pools(4), cuts(0))
		b.turns(t, 2)
		b.turns(t, 0)
		if isHandle(b, 1) {
			t.Fatal("1 is a handle")
		}
		if closed {
			b.pairs(t)
			b.all(t, fronts(4))
			b.says(t, b.client, reads(1, 9), "yz", nil)
			b.says(t, b.client, reads(1, 9), "", api.ErrEOF)
			continue
		}
		b.pairs(t, api.Pair{Front: 1, Handle: 1, DownDone: true})
		b.turns(t, 0) // reading with n 0: it is no handle
		b.pairs(t)
		b.all(t, fronts(4))
		b.says(t, b.client, reads(1, 9), "", api.ErrReset)
	}
}

// A Turn's number counts what was taken, not what was read: a Turn that reads and can't hand on is one of 0.
func TestP30_1_WhatATurnCounts(t *testing.T) {
	cfg := wide(4)
	cfg.Stage = 2
	b := made(t, wide(4), 1, 4, cfg, 5)
	b.all(t, client(opens()), client(writes(1, "abcd")), client(opens()), client(writes(3, "efg")), fronts(6))
	b.turns(t, 4)
	b.turns(t, 0)
	b.pairs(t, api.Pair{Front: 1, Handle: 1, Up: 2}, api.Pair{Front: 3, Handle: 2, Up: 1})
	b.all(t, pools(2))
	b.turns(t, 0)
	b.all(t, pools(2))
	b.turns(t, 3)
	b.turns(t, 0)
}

// Numbers rise in Pairs, whatever went between.
func TestP30_1_PairsRise(t *testing.T) {
	for gone := range 1 << 4 {
		b := paired(t, 4, 2)
		var want []api.Pair
		for i := range 4 {
			id := uint32(2*i + 1)
			if gone>>i&1 == 1 {
				b.all(t, client(resets(id)), brings(client))
			} else {
				want = append(want, api.Pair{Front: id, Handle: i + 1})
			}
		}
		b.turns(t, 0)
		b.pairs(t, want...)
		b.all(t, fronts(4), client(opens()), fronts(2))
		b.turns(t, 0)
		if gone > 0 {
			want = append(want, api.Pair{Front: 9, Handle: 5})
		} else {
			b.refuses(t, 9)
		}
		b.pairs(t, want...)
	}
}

// Two relays at one front and one pool: each by the words alone, with what the other leaves it.
func TestP30_1_TwoRelaysOfOneFront(t *testing.T) {
	b := made(t, wide(6), 2, 3, wide(6), 2)
	second := &both{b.world, newRelay(t, b.world, 3), &plain{world: b.w.world, size: 3, pairs: map[uint32]*couple{}}}
	two := []*both{b, second}
	for n := range 60 {
		b.all(t, client(opens()), client(writes(uint32(n%9*2+1), "abc")), fronts(1+n%2))
		one := two[n/3%2]
		one.turn(t)
		b.tells(t)
		second.tells(t)
		b.all(t, pools(1), far(0, accepts()), far(1, accepts()), far(n%2, writes(uint32(n%5*2+1), "xy")), far(n%2, reads(uint32(n%7*2+1), 3)))
		if n%11 == 10 {
			b.all(t, client(resets(uint32(n/11*4+1))), client(closes(uint32(n/11*4+3))))
		}
	}
	if len(b.r.Pairs()) == 0 || len(second.r.Pairs()) == 0 {
		t.Errorf("%v, %v", b.r.Pairs(), second.r.Pairs())
	}
}

// The front may be a connection of the pool itself, so that each stream that comes begets another.
func TestP30_1_AFrontOfThePoolItself(t *testing.T) {
	b := made(t, small(), 2, 4, wide(6), 2)
	for _, w := range []*world{b.world, b.w.world} {
		w.front = w.pool.Link(0)
	}
	b.r = newRelay(t, b.world, 2)
	b.all(t, taps(), puts(1, "abcdefgh"))
	most := 0
	for n := range 90 {
		b.turn(t)
		b.tells(t)
		most = max(most, len(b.r.Pairs()))
		b.all(t, pools(1+n%2), puts(1, "ijk"), far(1, accepts()), far(1, reads(1, 2)))
		if n%7 == 6 {
			b.all(t, taps(), drops(n/7-4))
		}
	}
	if most < 4 {
		t.Errorf("only %d pairs at one time", most)
	}
	b.all(t, cuts(0))
	b.fails(t, api.ErrCut)
}
