package proxy_test

import (
	"errors"
	"math"
	"slices"
	"strings"
	"testing"

	"culvert/api"
	"culvert/proxy"
	"culvert/sentinels"
	"culvert/specimens"
)

// example: a front and a pool as in the chapter's examples.
func example(t *testing.T) *both {
	t.Helper()
	return made(t, wide(), 1, 2, wide(), 100, 10)
}

// served: so many askers, in whose way nothing is; the pool has one connection with room for so many streams.
func served(t *testing.T, askers, per, weight, life int) *both {
	t.Helper()
	b := made(t, roomy(askers), 1, per, roomy(per), weight, life)
	b.join(t, askers)
	return b
}

// join: so many streams are opened at the front, and accepted.
func (b *both) join(t *testing.T, askers int) {
	t.Helper()
	for range askers {
		b.all(t, asClient.does(opens()))
	}
	b.all(t, fronts(2*askers))
	b.turns(t, 0)
	b.all(t, fronts(2*askers))
}

// question: the client writes this, and it comes.
func (b *both) question(t *testing.T, id uint32, bytes string) {
	t.Helper()
	b.all(t, asClient.does(writes(id, bytes)), fronts(3))
}

// tell: the far end answers so on this stream, and it comes.
func (b *both) tell(t *testing.T, id uint32, bytes string) {
	t.Helper()
	b.all(t, pools(2), far(0).does(accepts(), accepts(), accepts(), writes(id, bytes)), pools(4))
}

// tellAll: the same, with the end behind it.
func (b *both) tellAll(t *testing.T, id uint32, bytes string) {
	t.Helper()
	b.tell(t, id, bytes)
	b.all(t, far(0).does(closes(id)), pools(3))
}

// says: an operation of one of the ends that must answer these bytes, and so.
func (b *both) says(t *testing.T, e end, op api.LinkOp, text string, want error) {
	t.Helper()
	e(b.w.world, op)
	if r, err := e(b.world, op); string(r.Data) != text || !sentinels.Just(err, want) {
		t.Fatalf("%+v: %q, %v, want %q, %v", op, r.Data, err, text, want)
	}
}

// hears: the client gets all these bytes, and no others.
func (b *both) hears(t *testing.T, id uint32, text string) {
	t.Helper()
	b.all(t, fronts(4))
	b.says(t, asClient, reads(id, 1<<20), text, nil)
}

func (b *both) isHandle(handle int) bool {
	_, ok := b.pool.Handle(handle)
	return ok
}

// tickets: what waits in an end's lane, as kinds and streams.
func tickets(all []api.Ticket) []uint32 {
	var told []uint32
	for _, one := range all {
		told = append(told, uint32(one.Kind), one.Stream)
	}
	return told
}

// The chapter's examples, in their order.
func TestP31_1_Examples(t *testing.T) {
	b := example(t)
	b.all(t, asClient.does(opens(), writes(1, "\x01a\x01b\x01a")), fronts(3))
	b.turns(t, 0)
	b.asks(t, api.Asked{Key: "a", Handle: 1, Waiting: []uint32{1, 1}}, api.Asked{Key: "b", Handle: 2, Waiting: []uint32{1}})
	b.counts(t, 0, 0, 0)
	b.all(t, pools(4), far(0).does(accepts(), accepts()))
	for id, text := range map[uint32]string{1: "\x01a", 3: "\x01b"} {
		b.says(t, far(0), reads(id, 9), text, nil)
		b.says(t, far(0), reads(id, 9), "", api.ErrEOF)
	}
	b.all(t, far(0).does(writes(1, "\x02xx"), closes(1), resets(3)), pools(4))
	b.turns(t, 3)
	b.asks(t)
	b.hears(t, 1, "\x03\x00xx\x01\x01\x03\x00xx")
	b.counts(t, 0, 2, 1)
	b.keeps(t, "a")
	b.all(t, asClient.does(writes(1, "\x01a"), closes(1)), fronts(3))
	b.turns(t, 1)
	b.counts(t, 1, 2, 1)
	b.ticks(t, 10, 1, nil)
	b.keeps(t)
	b.hears(t, 1, "\x03\x00xx")
	b.says(t, asClient, reads(1, 9), "", api.ErrEOF)
	b.holds(t, 0)
}

var edges = []int{
	math.MinInt, math.MinInt + 1, -1 << 40, -1 << 32, -1<<32 + 1, -1 << 31, -2, -1, 0, 1, 2, 1<<20 + 1, 1<<31 - 1, 1 << 31, 1<<32 - 1, 1 << 32, 1<<32 + 1,
	1<<40 - 1, 1 << 40, 1<<40 + 1, 1 << 41, 1<<41 + 1, math.MaxInt - 1<<40, math.MaxInt - 1, math.MaxInt,
}

func TestP31_1_New(t *testing.T) {
	w := newWorld(t, wide(), 1, 2, wide())
	may := func(n int) bool { return n >= 1 && n <= 1099511627776 }
	for _, weight := range edges {
		for _, life := range edges {
			x, err := proxy.New(w.front, w.pool, weight, life)
			want := may(weight) && may(life)
			if (x != nil) != want || want && err != nil || !want && !sentinels.Just(err, api.ErrRange) {
				t.Errorf("New(%d, %d): %v, %v", weight, life, x, err)
			}
			for i, call := range []func() (*proxy.Proxy, error){
				func() (*proxy.Proxy, error) { return proxy.New(nil, w.pool, weight, life) },
				func() (*proxy.Proxy, error) { return proxy.New(w.front, nil, weight, life) },
				func() (*proxy.Proxy, error) { return proxy.New(nil, nil, weight, life) },
			} {
				if x, err := call(); x != nil || !sentinels.Just(err, api.ErrNil) {
					t.Errorf("New(%d, %d), nil %d: %v, %v, want ErrNil", weight, life, i, x, err)
				}
			}
		}
	}
}

// A new proxy does nothing to its front and its pool, whatever waits there, nor does it take over what others have accepted or opened.
func TestP31_1_NewKeepsNothing(t *testing.T) {
	b := made(t, roomy(4), 1, 4, roomy(4), 100, 10)
	b.all(t, taps(), asClient.does(opens(), opens(), writes(1, "\x01a"), writes(3, "\x01b")), fronts(4), asServer.does(accepts()))
	before := b.seen()
	x := newProxy(t, b.world, 100, 10)
	c, a, r := x.Count()
	if b.seen() != before || len(x.Open()) != 0 || len(x.Cached()) != 0 || x.Held() != 0 || c != 0 || a != 0 || r != 0 {
		t.Errorf("New has done something: %v, %v", x.Open(), x.Cached())
	}
	b.turns(t, 0)
	b.asks(t, api.Asked{Key: "b", Handle: 2, Waiting: []uint32{3}})
}

func TestR7_ANilProxyIsAnEmptyOne(t *testing.T) {
	var x *proxy.Proxy
	for range 2 {
		if n, err := x.Turn(); n != 0 || !sentinels.Just(err, api.ErrNil) {
			t.Errorf("Turn: %d, %v, want ErrNil", n, err)
		}
		for _, by := range edges {
			if n, err := x.Tick(by); n != 0 || !sentinels.Just(err, api.ErrNil) {
				t.Errorf("Tick(%d): %d, %v, want ErrNil", by, n, err)
			}
		}
		c, a, r := x.Count()
		if len(x.Cached()) != 0 || len(x.Open()) != 0 || x.Held() != 0 || c != 0 || a != 0 || r != 0 {
			t.Errorf("Cached %v, Open %v, Held %d, Count %d, %d, %d", x.Cached(), x.Open(), x.Held(), c, a, r)
		}
	}
}

// The time goes from 0 up to its greatest, and never further; a Tick that fails leaves it as it was.
func TestP31_1_Tick(t *testing.T) {
	for _, now := range []int{0, 1, 1 << 20, 1<<40 - 2, 1<<40 - 1, 1 << 40} {
		for _, n := range edges {
			b := example(t)
			if now > 0 {
				b.ticks(t, now, 0, nil)
			}
			want := error(nil)
			if n < 1 || n > 1099511627776-now {
				want = api.ErrRange
			}
			b.ticks(t, n, 0, want)
			left := 1<<40 - now
			if want == nil {
				left -= n
			}
			b.ticks(t, left+1, 0, api.ErrRange)
			if left > 0 {
				b.ticks(t, left, 0, nil)
			}
			b.ticks(t, 1, 0, api.ErrRange)
		}
	}
}

// known: the far end has told the value of these keys, one behind the other.
func (b *both) known(t *testing.T, id uint32, things ...thing) {
	t.Helper()
	for _, c := range things {
		b.question(t, id, message(c.key))
		b.turns(t, 0)
		open := b.x.Open()
		at, _ := b.pool.Handle(open[len(open)-1].Handle)
		b.tellAll(t, at.ID, message(c.value))
		b.turns(t, 1)
		b.hears(t, id, message("\x00"+c.value))
	}
}

// An answer is good for as long as life says, from the time on at which it was found: not when it was asked, or asked for again.
func TestP31_1_HowLongAnAnswerIsGood(t *testing.T) {
	for _, life := range []int{1, 2, 10, 1 << 32, 1<<40 - 8, 1<<40 - 7, 1<<40 - 6} {
		b := served(t, 1, 4, 100, life)
		b.ticks(t, 3, 0, nil)
		b.question(t, 1, "\x01a")
		b.turns(t, 0)
		b.ticks(t, 4, 0, nil)
		b.tellAll(t, 1, "\x02xx")
		b.ticks(t, 0, 0, api.ErrRange)
		b.turns(t, 1)
		if life > 1 {
			b.ticks(t, life-1, 0, nil)
			b.keeps(t, "a")
		}
		b.question(t, 1, "\x01a")
		b.turns(t, 1) // from the cache
		b.counts(t, 1, 1, 0)
		if life > 1<<40-7 {
			b.ticks(t, 1, 0, api.ErrRange)
			b.ticks(t, 2, 0, api.ErrRange)
			b.keeps(t, "a")
			continue
		}
		b.ticks(t, 1, 1, nil)
		b.keeps(t)
		b.question(t, 1, "\x01a")
		b.turns(t, 0)
		b.asks(t, api.Asked{Key: "a", Handle: 2, Waiting: []uint32{1}})
	}
}

// Where the time has come to its end answers are put into the cache all the same, and stay.
func TestP31_1_AtTheEndOfTime(t *testing.T) {
	for _, life := range []int{1, 1 << 40} {
		b := served(t, 1, 4, 100, life)
		b.ticks(t, 1<<40, 0, nil)
		b.known(t, 1, thing{key: "a", value: "xx"})
		b.keeps(t, "a")
		b.ticks(t, 1, 0, api.ErrRange)
		b.question(t, 1, "\x01a")
		b.turns(t, 1)
		b.counts(t, 1, 1, 0)
	}
}

// A Tick tells how many keys went, and lets go of these alone.
func TestP31_1_ATickTellsHowMany(t *testing.T) {
	b := served(t, 1, 9, 100, 10)
	b.known(t, 1, thing{key: "a", value: "x"}, thing{key: "b", value: ""})
	b.ticks(t, 4, 0, nil)
	b.known(t, 1, thing{key: "c", value: "zz"})
	b.ticks(t, 1, 0, nil)
	b.known(t, 1, thing{key: "d", value: "z"}, thing{key: "e", value: "z"})
	b.keeps(t, "e", "d", "c", "b", "a")
	b.ticks(t, 4, 0, nil)
	b.ticks(t, 1, 2, nil)
	b.keeps(t, "e", "d", "c")
	b.ticks(t, 3, 0, nil)
	b.ticks(t, 1<<40, 0, api.ErrRange)
	b.keeps(t, "e", "d", "c")
	b.ticks(t, 100, 3, nil)
	b.keeps(t)
	b.ticks(t, 1, 0, nil)
}

// endings are ways in which the front is over.
var endings = []struct {
	moves []move
	why   error
}{
	{[]move{asClient.does(api.LinkOp{Kind: api.DoCut})}, api.ErrCut},
	{[]move{asServer.does(injects(specimens.Data(0, 99, "x")))}, api.ErrUnknown},
	{[]move{asServer.does(injects(specimens.Bare(api.TypeWindow, api.FlagSYN, 1, 0)))}, api.ErrReused},
	{[]move{asServer.does(injects(specimens.Bare(api.TypeAway, 0, 0, 1)))}, api.ErrPeer},
	{[]move{asServer.does(injects(specimens.Bare(api.TypeAway, 0, 0, 2)))}, api.ErrPeer},
	{[]move{asServer.does(injects(specimens.Bare(api.TypeAway, 0, 0, 2)), api.LinkOp{Kind: api.DoCut})}, api.ErrPeer},
	{[]move{asClient.does(injects(specimens.Data(0, 98, "x"))), asClient.brings()}, api.ErrPeer},
}

// A front that is over: all askers go with all that they hold, and all that was asked goes, whether somebody waits for it or not; what is cached, the time and the counts stay.
func TestP31_1_AFrontThatIsOver(t *testing.T) {
	for i, ending := range endings {
		b := served(t, 4, 8, 100, 10)
		b.known(t, 3, thing{key: "k", value: "v"}) // the handle 1
		b.ticks(t, 3, 0, nil)
		b.question(t, 1, "\x01a\x01b\x01k\x05part")
		b.question(t, 3, "\x01a\x01c")
		b.question(t, 5, "\x01d")
		b.turns(t, 0)
		b.all(t, asClient.does(resets(5)), asClient.brings())
		b.turns(t, 0)
		b.all(t, asClient.does(opens()), fronts(2), taps()) // somebody else's: 6
		b.asks(t, api.Asked{Key: "a", Handle: 2, Waiting: []uint32{1, 3}}, api.Asked{Key: "b", Handle: 3, Waiting: []uint32{1}},
			api.Asked{Key: "c", Handle: 4, Waiting: []uint32{3}}, api.Asked{Key: "d", Handle: 5})
		b.all(t, ending.moves...)
		b.tells(t) // till the next Turn all stays
		for range 3 {
			n, err := b.turn(t)
			if n != 0 || !errors.Is(err, ending.why) || err.Error() != b.front.End(1).Err().Error() {
				t.Fatalf("ending %d: Turn: %d, %v", i, n, err)
			}
			b.tells(t)
			b.asks(t)
			b.holds(t, 0)
			b.keeps(t, "k")
			b.counts(t, 1, 1, 0)
		}
		for handle := 2; handle <= 6; handle++ {
			if b.isHandle(handle) != (handle == 6) {
				t.Errorf("ending %d: the handle %d: %v", i, handle, b.isHandle(handle))
			}
		}
		b.ticks(t, 6, 0, nil)
		b.ticks(t, 1, 1, nil)
		b.keeps(t)
	}
}

// What was asked is reset in the order in which it was asked, which needn't be that of the askers or of the handles' keys.
func TestP31_1_TheOrderOfResets(t *testing.T) {
	const rst = uint32(api.TicketRST)
	b := served(t, 4, 8, 100, 10)
	for i, id := range []uint32{5, 1, 7, 3} {
		b.question(t, id, message(string(rune('d'-i))))
		b.turns(t, 0)
	}
	b.all(t, pools(9), asClient.does(api.LinkOp{Kind: api.DoCut}))
	b.fails(t, api.ErrCut)
	if got := tickets(b.pool.Link(0).End(0).Tickets()); !slices.Equal(got, []uint32{rst, 1, rst, 3, rst, 5, rst, 7}) {
		t.Errorf("tickets %v", got)
	}
}

// Behind a cut of its connection a handle can't be reset, and stays; the asking goes all the same.
func TestP31_1_AFrontThatIsOverBehindACut(t *testing.T) {
	b := served(t, 1, 2, 100, 10)
	b.question(t, 1, "\x01a\x01b")
	b.turns(t, 0)
	b.all(t, cuts(0), asClient.does(api.LinkOp{Kind: api.DoCut}))
	b.fails(t, api.ErrCut)
	b.asks(t)
	if !b.isHandle(1) || !b.isHandle(2) {
		t.Error("1 or 2 is no handle")
	}
}

// All that wait are accepted in one Turn, and heard in it.
func TestP31_1_AllAreAcceptedAndHeard(t *testing.T) {
	b := made(t, roomy(5), 1, 5, roomy(5), 100, 10)
	var want []api.Asked
	for i := range 5 {
		id, key := uint32(2*i+1), string(rune('a'+i))
		b.all(t, asClient.does(opens(), writes(id, message(key))))
		want = append(want, api.Asked{Key: key, Handle: i + 1, Waiting: []uint32{id}})
	}
	b.all(t, fronts(12))
	b.turns(t, 0)
	b.asks(t, want...)
}

// Accept fails where the front has no room for more streams: then they wait.
func TestP31_1_WhereAcceptFails(t *testing.T) {
	cfg := roomy(5)
	cfg.Streams = 2
	b := made(t, cfg, 1, 5, roomy(5), 100, 10)
	for _, id := range []uint32{1, 3, 5} {
		b.all(t, asServer.does(injects(specimens.Bare(api.TypeWindow, api.FlagSYN, id, 0), specimens.Data(0, id, message(string(rune('a'+id)))))))
	}
	b.turns(t, 0)
	b.asks(t, api.Asked{Key: "b", Handle: 1, Waiting: []uint32{1}}, api.Asked{Key: "d", Handle: 2, Waiting: []uint32{3}})
	b.turns(t, 0)
	b.all(t, asServer.does(injects(specimens.Bare(api.TypeWindow, api.FlagRST, 1, 0))))
	b.turns(t, 0) // it goes behind the Accepts
	b.turns(t, 0)
	b.asks(t, api.Asked{Key: "b", Handle: 1}, api.Asked{Key: "d", Handle: 2, Waiting: []uint32{3}}, api.Asked{Key: "f", Handle: 3, Waiting: []uint32{5}})
}

// One Read gives 512 bytes at most; it is read again only where fewer than 16 questions stand in the list.
func TestP31_1_HowMuchIsHeard(t *testing.T) {
	b := served(t, 1, 4, 100, 10)
	b.question(t, 1, strings.Repeat("\x01a", 300))
	b.turns(t, 0)
	b.asks(t, api.Asked{Key: "a", Handle: 1, Waiting: slices.Repeat([]uint32{1}, 256)})
	b.holds(t, 256+2-2)
	if v, _ := b.front.End(1).View(1); v.Unread != 88 {
		t.Errorf("%+v", v)
	}
	b.turns(t, 0)
	b.tellAll(t, 1, "\x00")
	b.turns(t, 256)
	b.counts(t, 0, 256, 0)
	b.turns(t, 44)
	b.counts(t, 44, 256, 0)
	b.hears(t, 1, strings.Repeat("\x01\x00", 300))

	b = served(t, 1, 9, 100, 10)
	long := message(strings.Repeat("q", 256)) // 258 bytes, so that 512 of them are not two
	b.question(t, 1, strings.Repeat(long, 20))
	b.turns(t, 0)
	b.asks(t, api.Asked{Key: long[2:], Handle: 1, Waiting: slices.Repeat([]uint32{1}, 17)}) // 15 behind the eighth Read, 17 behind the ninth
	if v, _ := b.front.End(1).View(1); v.Unread != 20*258-9*512 {
		t.Errorf("%+v", v)
	}
	b.holds(t, 17*256+9*512-17*258)
}

// listed: an asker in whose list stand so many questions, all of which wait.
func listed(t *testing.T, many int) *both {
	t.Helper()
	b := served(t, 2, 40, 100, 10)
	for i := range many {
		b.question(t, 1, message(string(rune('A'+i))))
		b.turns(t, 0)
	}
	if n := len(b.x.Open()); n != many {
		t.Fatalf("%d are asked, want %d", n, many)
	}
	return b
}

// Of an asker with 16 questions nothing is read: neither bytes nor the end nor a reset.
func TestP31_1_SixteenQuestions(t *testing.T) {
	for _, many := range []int{0, 1, 14, 15, 16} {
		full := many == 16
		b := listed(t, many)
		b.question(t, 1, "\x01z")
		b.turns(t, 0)
		if got := len(b.x.Open()); got != min(many+1, 16) {
			t.Errorf("%d questions, and one more: %d are asked", many, got)
		}

		b = listed(t, many)
		b.all(t, asClient.does(resets(1)), asClient.brings())
		b.turns(t, 0)
		for _, one := range b.x.Open() {
			if (len(one.Waiting) == 1) != full {
				t.Fatalf("%d questions, and a reset: %+v", many, one)
			}
		}
		if got := slices.Contains(b.front.End(1).Streams(), 1); got != full {
			t.Errorf("%d questions, and a reset: %v", many, got)
		}

		b = listed(t, many)
		b.question(t, 1, "\x05part")
		b.all(t, asClient.does(closes(1)), fronts(3))
		b.turns(t, 0)
		for _, one := range b.x.Open() {
			if (len(one.Waiting) == 1) != full {
				t.Fatalf("%d questions, and an end that may not be: %+v", many, one)
			}
		}
	}
}

// What stood behind 16 questions is heard when one of them was answered.
func TestP31_1_BehindSixteenQuestions(t *testing.T) {
	b := listed(t, 16)
	b.question(t, 1, "\x01y\x01z")
	b.all(t, asClient.does(closes(1)), fronts(3))
	b.turns(t, 0)
	b.tellAll(t, 3, "\x01x") // the second one
	b.turns(t, 0)
	b.turns(t, 0)
	b.tellAll(t, 1, "\x01x")
	b.turns(t, 2)
	b.turns(t, 0)
	if got := len(b.x.Open()); got != 16 {
		t.Errorf("%d are asked", got)
	}
	b.counts(t, 0, 2, 0)
}

// mistakes are bytes that no asker may write, with the number of the byte at which it is found.
var mistakes = []struct {
	bytes string
	at    int
}{
	{"\x00", 1},
	{"\x81\x02", 2}, // 257
	{"\x80\x00", 2},
	{"\x83\x00", 2},
	{"\xff\xff\x80", 3},
	{"\x80\x80\x04", 3}, // 65536
	{"\x80\x80\x01", 3}, // 16384
}

// An asker that makes a mistake is reset at once, with all questions of the Feed in which it made it, and those that wait.
func TestP31_1_MistakesOfAskers(t *testing.T) {
	const rst = uint32(api.TicketRST)
	for _, m := range mistakes {
		for _, ahead := range []string{"", "\x01b", "\x01b\x01c\x01a", message(strings.Repeat("k", 256))} {
			for _, behind := range []string{"", "\x01d", "\x05pa"} {
				b := served(t, 2, 9, 100, 10)
				b.question(t, 1, "\x01a")
				b.question(t, 3, "\x01a")
				b.turns(t, 0)
				b.question(t, 1, ahead+m.bytes[:m.at-1])
				b.turns(t, 0)
				asked := b.x.Open()
				b.question(t, 1, m.bytes[m.at-1:]+behind)
				b.turns(t, 0)
				for i := range asked {
					asked[i].Waiting = slices.DeleteFunc(asked[i].Waiting, func(id uint32) bool { return id == 1 })
				}
				b.asks(t, asked...)
				b.counts(t, 0, 0, 0)
				if got := tickets(b.front.End(1).Tickets()); !slices.Contains(b.front.End(1).Streams(), 3) || !slices.Equal(got[len(got)-2:], []uint32{rst, 1}) {
					t.Fatalf("%q behind %q: tickets %v", m.bytes, ahead, got)
				}
				b.all(t, fronts(3))
				b.says(t, asClient, reads(1, 9), "", api.ErrReset)

				b = served(t, 2, 9, 100, 10) // all in one Feed
				b.question(t, 1, ahead+m.bytes+behind)
				b.turns(t, 0)
				b.asks(t)
				b.holds(t, 0)
				b.all(t, fronts(3))
				b.says(t, asClient, reads(1, 9), "", api.ErrReset)
				b.turns(t, 0)
			}
		}
	}
}

// Questions of a Feed ahead of the one that fails were heard: they go with the asker, whatever they are, and none is asked.
func TestP31_1_AMistakeInALaterFeed(t *testing.T) {
	b := served(t, 1, 9, 100, 10)
	long := message(strings.Repeat("q", 256))
	b.question(t, 1, long+long+long+"\x00")
	b.turns(t, 0)
	b.asks(t)
	b.holds(t, 0)
	if b.isHandle(1) || slices.Contains(b.front.End(1).Streams(), 1) {
		t.Error("it was asked, or its asker stays")
	}
}

// Questions have 1 to 256 bytes, and any bytes; they may come in any pieces.
func TestP31_1_QuestionsOfAnyLength(t *testing.T) {
	for _, n := range []int{1, 2, 127, 128, 129, 255, 256} {
		for _, pieces := range []bool{false, true} {
			key := strings.Repeat("\x00\xff\x80\x01", 64)[:n]
			text := message(key)
			b := served(t, 1, 9, 1000, 10)
			if pieces {
				for i := range len(text) - 1 {
					b.question(t, 1, text[i:i+1])
					b.turns(t, 0)
					b.asks(t)
					b.holds(t, i+1)
				}
				text = text[len(text)-1:]
			}
			b.question(t, 1, text)
			b.turns(t, 0)
			b.asks(t, api.Asked{Key: key, Handle: 1, Waiting: []uint32{1}})
			b.holds(t, n)
			b.tell(t, 1, "")
			b.says(t, far(0), reads(1, 999), message(key), nil)
			b.says(t, far(0), reads(1, 999), "", api.ErrEOF)
			b.tellAll(t, 1, message(key))
			b.turns(t, 1)
			b.hears(t, 1, message("\x00"+key))
			b.keeps(t, key)
		}
	}
}

// An end amid a question is a mistake; behind whole ones it is none, and the answers are given all the same.
func TestP31_1_TheEndOfQuestions(t *testing.T) {
	for text, whole := range map[string]bool{"": true, "\x01a": true, "\x01": false, "\x01a\x80": false, "\x01a\x02b": false, "\x01a\x02bc": true} {
		b := served(t, 1, 9, 100, 10)
		b.question(t, 1, text)
		b.turns(t, 0)
		b.all(t, asClient.does(closes(1)), fronts(3))
		b.turns(t, 0)
		b.all(t, fronts(4))
		switch {
		case !whole:
			b.says(t, asClient, reads(1, 9), "", api.ErrReset)
			b.holds(t, 0)
		case text == "":
			b.says(t, asClient, reads(1, 9), "", api.ErrEOF)
		default:
			b.says(t, asClient, reads(1, 9), "", nil)
			b.all(t, cuts(0))
			b.turns(t, strings.Count(text, "\x01a")+strings.Count(text, "bc"))
			b.hears(t, 1, strings.Repeat("\x01\x01", b.w.refused))
			b.says(t, asClient, reads(1, 9), "", api.ErrEOF)
		}
		if slices.Contains(b.front.End(1).Streams(), 1) {
			t.Errorf("%q: its stream is there", text)
		}
	}
}

// An asker whose stream is gone is let go without a Reset; what it asked goes on being asked, and what comes of it is cached.
func TestP31_1_AnAskerThatIsGone(t *testing.T) {
	for name, moves := range map[string][]move{
		"the client resets":  {asClient.does(resets(1)), asClient.brings()},
		"somebody resets":    {asServer.does(resets(1))},
		"somebody reads on":  {asClient.does(closes(1)), fronts(3), asServer.does(reads(1, 9), closes(1))},
		"the client resets ": {asClient.does(writes(1, "\x01c")), fronts(3), asClient.does(resets(1)), asClient.brings()},
	} {
		b := served(t, 2, 9, 100, 10)
		b.question(t, 1, "\x01a\x01b\x01a\x03pa")
		b.question(t, 3, "\x01b")
		b.turns(t, 0)
		b.asks(t, api.Asked{Key: "a", Handle: 1, Waiting: []uint32{1, 1}}, api.Asked{Key: "b", Handle: 2, Waiting: []uint32{1, 3}})
		b.holds(t, 7)
		b.all(t, moves...)
		if name == "somebody reads on" {
			b.all(t, fronts(3))
		}
		before := tickets(b.front.End(1).Tickets())
		b.turns(t, 0)
		b.asks(t, api.Asked{Key: "a", Handle: 1}, api.Asked{Key: "b", Handle: 2, Waiting: []uint32{3}})
		b.holds(t, 1)
		if got := tickets(b.front.End(1).Tickets()); !slices.Equal(got, before) {
			t.Errorf("%s: tickets %v, and before %v", name, got, before)
		}
		b.tellAll(t, 1, "\x01x")
		b.turns(t, 0)
		b.counts(t, 0, 0, 0)
		b.keeps(t, "a")
		b.all(t, far(0).does(resets(3)), pools(3))
		b.turns(t, 1)
		b.counts(t, 0, 0, 1)
		b.question(t, 3, "\x01a")
		b.turns(t, 1)
		b.hears(t, 3, "\x01\x01\x02\x00x")
	}
}

// Whatever waits is told by its asker's id, as often as it waits, in the order in which it was looked at.
func TestP31_1_WhoWaits(t *testing.T) {
	b := served(t, 3, 9, 100, 10)
	b.question(t, 3, "\x01b\x01a")
	b.turns(t, 0)
	b.question(t, 1, "\x01c\x01a\x01b")
	b.question(t, 5, "\x01a\x01c\x01a")
	b.question(t, 3, "\x01a\x01d")
	b.turns(t, 0)
	want := []api.Asked{
		{Key: "b", Handle: 1, Waiting: []uint32{3, 1}}, {Key: "a", Handle: 2, Waiting: []uint32{3, 1, 3, 5, 5}},
		{Key: "c", Handle: 3, Waiting: []uint32{1, 5}}, {Key: "d", Handle: 4, Waiting: []uint32{3}},
	}
	b.asks(t, want...)
	b.turns(t, 0)
	b.asks(t, want...)
	b.tellAll(t, 3, "\x01A")
	b.turns(t, 1) // the others stand behind others
	b.counts(t, 0, 5, 0)
	b.all(t, asClient.does(resets(5)), asClient.brings())
	b.tellAll(t, 5, "\x01C")
	b.turns(t, 2)
	b.counts(t, 0, 6, 0)
	b.hears(t, 1, "\x02\x00C\x02\x00A")
	b.tellAll(t, 1, "\x01B")
	b.turns(t, 4) // one of 1, and three of 3
	b.hears(t, 1, "\x02\x00B")
	b.hears(t, 3, "\x02\x00B\x02\x00A\x02\x00A")
	b.asks(t, api.Asked{Key: "d", Handle: 4, Waiting: []uint32{3}})
	b.keeps(t, "b", "c", "a")
}

// Where the pool has no stream a question is refused, and so is the next one of its key, till there is one again.
func TestP31_1_WhatThePoolRefuses(t *testing.T) {
	spent := roomy(4)
	spent.Skip = 1<<31 - 1 // one id is left
	for name, b := range map[string]*both{
		"none":      made(t, roomy(2), 2, 4, roomy(4), 100, 10),
		"draining":  made(t, roomy(2), 2, 4, roomy(4), 100, 10),
		"full":      made(t, roomy(2), 2, 1, roomy(4), 100, 10),
		"exhausted": made(t, roomy(2), 1, 4, spent, 100, 10),
	} {
		b.join(t, 2)
		switch name {
		case "none":
			b.all(t, cuts(0), cuts(1))
		case "draining":
			b.all(t, near(0).does(leaves()), near(1).does(leaves()))
		case "full":
			b.all(t, taps(), taps())
		case "exhausted":
			b.all(t, taps())
		}
		b.question(t, 1, "\x01a\x01b\x01a")
		b.question(t, 3, "\x01a")
		b.turns(t, 4)
		b.counts(t, 0, 0, 4)
		b.asks(t)
		b.hears(t, 1, "\x01\x01\x01\x01\x01\x01")
		b.hears(t, 3, "\x01\x01")
		b.turns(t, 0)
		b.counts(t, 0, 0, 4)
	}
}

// A key that is being asked is waited for also where the pool has no stream any more; one that is cached is answered.
func TestP31_1_AFullPool(t *testing.T) {
	b := served(t, 2, 1, 100, 10)
	b.known(t, 1, thing{key: "k", value: "v"})
	b.question(t, 1, "\x01a\x01b\x01a\x01k\x01b")
	b.question(t, 3, "\x01b\x01a")
	b.turns(t, 1) // the one of 3
	b.asks(t, api.Asked{Key: "a", Handle: 2, Waiting: []uint32{1, 1, 3}})
	b.counts(t, 1, 1, 3)
	b.holds(t, 5+1+1)
	b.tellAll(t, 3, "\x01x")
	b.turns(t, 6)
	b.counts(t, 1, 4, 3)
	b.hears(t, 1, "\x02\x00x\x01\x01\x02\x00x\x02\x00v\x01\x01")
	b.hears(t, 3, "\x01\x01\x02\x00x")
	b.question(t, 3, "\x01b")
	b.turns(t, 0)
	b.asks(t, api.Asked{Key: "b", Handle: 3, Waiting: []uint32{3}})
}

// What the cache has told stands, whatever becomes of the cache ahead of its turn.
func TestP31_1_WhatTheCacheHasToldStands(t *testing.T) {
	b := served(t, 1, 9, 4, 10)
	b.known(t, 1, thing{key: "k", value: "vwx"})
	b.question(t, 1, "\x01a\x01k")
	b.turns(t, 0)
	b.counts(t, 1, 1, 0)
	b.holds(t, 2+3)
	b.ticks(t, 10, 1, nil)
	b.fruitless(t, "k")
	b.tellAll(t, 3, "\x03abc")
	b.turns(t, 3)
	b.hears(t, 1, "\x04\x00abc\x04\x00vwx\x01\x01")
}

// fruitless: a question of this key, whose asking fails.
func (b *both) fruitless(t *testing.T, key string) {
	t.Helper()
	b.question(t, 1, message(key))
	b.turns(t, 0)
	open := b.x.Open()
	b.all(t, drops(open[len(open)-1].Handle))
	b.turns(t, 0)
}
