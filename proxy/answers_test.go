package proxy_test

import (
	"slices"
	"strings"
	"testing"

	"culvert/api"
	"culvert/draws"
	"culvert/specimens"
)

// asked: one asker, whose question "a" (and this one) is being asked on the handle 1, which the far end has as stream 1.
func asked(t *testing.T, weight int, others ...string) *both {
	t.Helper()
	b := served(t, 2, 9, weight, 10)
	b.question(t, 1, "\x01a"+strings.Join(others, ""))
	b.turns(t, 0)
	b.tell(t, 1, "")
	return b
}

// farAnswers are what a far end may write ahead of its end.
var farAnswers = []struct {
	bytes  string
	found  bool // with the end behind it
	failed bool // ahead of the end
}{
	{"\x02xx", true, false},
	{"\x00", true, false},
	{"\x01x", true, false},
	{message(strings.Repeat("v", 512)), true, false},
	{message(strings.Repeat("v", 510)), true, false},
	{message(strings.Repeat("v", 509)), true, false},
	{message(strings.Repeat("vw", 32767)), true, false},
	{message(strings.Repeat("vw", 32768)), true, false},
	{message(strings.Repeat("vw", 32768) + "x"), false, true},
	{"\x81\x80\x04", false, true}, // a length of 65537, and nothing behind it
	{"\x80\x80\x04", false, false},
	{"\x81\x80", false, false},
	{"\x80\x00", false, true},
	{"\xff\xff\xff", false, true},
	{"\x01x\x01y", false, true},
	{"\x00\x00", false, true},
	{"\x01x\x00", false, true},
	{"\x00\x02z", false, false},
	{"\x01x\x01", false, false},
	{"\x01x\xff\xff", false, false},
	{"\x01x\xff\xff\xff", false, true},
	{"", false, false},
	{"\x01", false, false},
	{"\x02x", false, false},
	{message(strings.Repeat("v", 1000))[:999], false, false},
	{message(strings.Repeat("v", 600)) + "\x00", false, true},
	{message(strings.Repeat("v", 600)) + "\x01", false, false},
}

// answered: the only question has been answered so.
func (b *both) answered(t *testing.T, found bool, bytes string) {
	t.Helper()
	b.asks(t)
	b.holds(t, 0)
	if !found {
		b.counts(t, 0, 0, 1)
		b.keeps(t)
		b.hears(t, 1, "\x01\x01")
		return
	}
	b.counts(t, 0, 1, 0)
	b.keeps(t, "a")
	whole, _, _ := cutUp(bytes, 1<<16)
	b.hears(t, 1, message("\x00"+whole[0]))
}

// Found is one message of at most 65536 bytes with the end behind it, and nothing else; what can become none has failed at once.
func TestP31_5_WhatFarEndsAnswer(t *testing.T) {
	for _, c := range farAnswers {
		b := asked(t, 1<<20)
		b.tellAll(t, 1, c.bytes)
		b.turns(t, 1)
		b.answered(t, c.found, c.bytes)

		b = asked(t, 1<<20) // the end comes by itself
		b.tell(t, 1, c.bytes)
		if c.failed {
			b.turns(t, 1)
			b.answered(t, false, "")
			b.all(t, pools(3))
			b.says(t, far(0), closes(1), "", api.ErrReset)
			continue
		}
		b.turns(t, 0)
		b.asks(t, api.Asked{Key: "a", Handle: 1, Waiting: []uint32{1}})
		b.holds(t, 1+len(c.bytes)-len(lengths(c.bytes)))
		b.all(t, far(0).does(closes(1)), pools(3))
		b.turns(t, 1)
		b.answered(t, c.found, c.bytes)
	}
}

// lengths: the bytes of a whole message's length, which nobody holds; none, if it isn't whole.
func lengths(bytes string) string {
	whole, _, _ := cutUp(bytes, 1<<16)
	if len(whole) == 0 {
		return ""
	}
	return strings.TrimSuffix(message(whole[0]), whole[0])
}

// The same answers byte by byte, with a Turn behind each: nothing else comes of it.
func TestP31_5_FarAnswersInPieces(t *testing.T) {
	for _, c := range farAnswers {
		if len(c.bytes) > 1010 {
			continue
		}
		b := asked(t, 1<<20)
		given, row := 0, draws.Draws(1)
		for rest := c.bytes; rest != "" && given == 0; {
			n := 1
			if len(rest) > 12 {
				n += row.Below(len(rest) - 12)
			}
			b.tell(t, 1, rest[:n])
			rest = rest[n:]
			given, _ = b.turn(t)
			b.tells(t)
		}
		if (given == 1) != c.failed {
			t.Fatalf("%q: %d are given ahead of the end", c.bytes, given)
		}
		if given == 0 {
			b.all(t, far(0).does(closes(1)), pools(3))
			b.turns(t, 1)
		}
		b.answered(t, c.found, c.bytes)
	}
}

// outcomes of what may be done at a pool, where a far end has written "\x02xx" and perhaps its end, and the Turn that hears it comes behind.
var outcomes = map[string]struct {
	moves        []move
	open, closed string // what becomes of the asking, where the far end has not closed, and where it has
}{
	"nothing":                      {nil, "waits", "found"},
	"the far end resets":           {[]move{far(0).does(resets(1)), far(0).brings()}, "refused", "found"}, // a quiet stream needs no reset
	"a cut":                        {[]move{cuts(0)}, "refused", "found"},
	"a cut, and another one":       {[]move{cuts(0), connects(0)}, "refused", "refused"},
	"a violation at the far end":   {[]move{far(0).does(injects(specimens.Data(0, 99, "x"))), far(0).brings()}, "refused", "refused"},
	"a violation at the near end":  {[]move{far(0).does(injects(specimens.Bare(api.TypePing, api.FlagSYN, 0, 77))), far(0).brings()}, "refused", "refused"},
	"the far end goes away":        {[]move{far(0).does(leaves()), far(0).brings()}, "waits", "found"},
	"the near end goes away":       {[]move{near(0).does(leaves()), near(0).brings()}, "waits", "found"},
	"somebody resets the handle":   {[]move{drops(1)}, "refused", "refused"},
	"somebody closes the handle":   {[]move{shuts(1)}, "waits", "found"}, // which fails
	"somebody writes":              {[]move{puts(1, "\x01z")}, "waits", "found"},
	"somebody reads a part":        {[]move{gets(1, 1)}, "refused", "refused"}, // "xx" begins with a length of 120
	"somebody reads all":           {[]move{gets(1, 3)}, "waits", "refused"},
	"somebody hears it to its end": {[]move{gets(1, 3), gets(1, 3)}, "waits", "refused"},
}

func TestP31_1_WhatBecomesOfAnAsking(t *testing.T) {
	for name, c := range outcomes {
		for _, closed := range []bool{false, true} {
			b := asked(t, 100)
			b.question(t, 3, "\x01a")
			b.turns(t, 0)
			b.tell(t, 1, "\x02xx")
			want := c.open
			if closed {
				b.all(t, far(0).does(closes(1)), pools(3))
				want = c.closed
			}
			b.all(t, c.moves...)
			if name == "somebody reads a part" && !closed {
				want = "waits" // the rest is no whole message
			}
			switch want {
			case "waits":
				b.turns(t, 0)
				b.asks(t, api.Asked{Key: "a", Handle: 1, Waiting: []uint32{1, 3}})
			case "found":
				b.turns(t, 2)
				b.counts(t, 0, 2, 0)
				b.keeps(t, "a")
				b.asks(t)
			case "refused":
				b.turns(t, 2)
				b.counts(t, 0, 0, 2)
				b.keeps(t)
				b.asks(t)
				if v, _ := b.pool.Conn(0); v.Live && b.isHandle(1) {
					t.Errorf("%s: 1 is a handle", name)
				}
			}
			b.turns(t, 0)
		}
	}
}

// slow: a pool that takes so many bytes at a time, of which the question "abcdef" has 7; the far end has accepted.
func slow(t *testing.T, stage int) *both {
	t.Helper()
	cfg := roomy(9)
	cfg.Stage = stage
	b := made(t, roomy(2), 1, 9, cfg, 100, 10)
	b.join(t, 2)
	b.question(t, 1, "\x06abcdef")
	b.turns(t, 0)
	b.all(t, pools(1), far(0).does(accepts()), pools(3))
	return b
}

// A question that the pool doesn't take at once goes on in the next Turns, in its order, and the end behind its last byte.
func TestP31_1_AQuestionInPieces(t *testing.T) {
	for stage := 1; stage <= 8; stage++ {
		b := slow(t, stage)
		told := min(stage, 7)
		for told < 7 {
			b.holds(t, 6+7-told)
			b.turns(t, 0) // as much as stage goes on
			b.all(t, pools(2))
			told = min(told+stage, 7)
		}
		b.holds(t, 6)
		b.turns(t, 0)
		b.all(t, pools(2))
		b.says(t, far(0), reads(1, 99), "\x06abcdef", nil)
		b.says(t, far(0), reads(1, 99), "", api.ErrEOF)
		b.tellAll(t, 1, "\x01x")
		b.turns(t, 1)
		b.all(t, pools(3))
		if b.isHandle(1) {
			t.Errorf("stage %d: 1 is a handle", stage)
		}
	}
}

// A Write that takes nothing is none that fails.
func TestP31_1_APoolThatTakesNothing(t *testing.T) {
	cfg := roomy(9)
	cfg.Window, cfg.Stage = 2, 3
	b := made(t, roomy(2), 1, 9, cfg, 100, 10)
	b.join(t, 2)
	b.question(t, 1, "\x06abcdef")
	b.turns(t, 0) // three bytes
	for range 4 {
		b.turns(t, 0)
		b.holds(t, 6+4)
	}
	b.all(t, pools(4))
	b.turns(t, 0) // the two that went made room
	for range 4 {
		b.turns(t, 0)
		b.holds(t, 6+2)
	}
	b.asks(t, api.Asked{Key: "abcdef", Handle: 1, Waiting: []uint32{1}})
}

// An answer that is found ahead of the whole question counts; the handle is reset, as it wasn't closed.
func TestP31_1_FoundAheadOfTheQuestionsEnd(t *testing.T) {
	const rst = uint32(api.TicketRST)
	b := slow(t, 2)
	b.tellAll(t, 1, "\x01x")
	b.turns(t, 1)
	b.counts(t, 0, 1, 0)
	b.keeps(t, "abcdef")
	b.asks(t)
	b.holds(t, 0)
	if got := tickets(b.pool.Link(0).End(0).Tickets()); !slices.Equal(got, []uint32{rst, 1}) || b.isHandle(1) {
		t.Errorf("tickets %v", got)
	}
	b.all(t, pools(3))
	b.says(t, far(0), reads(1, 99), "", api.ErrReset)

	b = asked(t, 100) // with the question closed there is no reset
	b.tellAll(t, 1, "\x01x")
	before := tickets(b.pool.Link(0).End(0).Tickets())
	b.turns(t, 1)
	if got := tickets(b.pool.Link(0).End(0).Tickets()); !slices.Equal(got, before) {
		t.Errorf("tickets %v, before %v", got, before)
	}
	b.says(t, far(0), reads(1, 99), "\x01a", nil)
	b.says(t, far(0), reads(1, 99), "", api.ErrEOF)
}

// What others do with a handle that isn't closed yet.
func TestP31_1_OthersAtAHandleThatIsOpen(t *testing.T) {
	for name, moves := range map[string][]move{
		"close": {shuts(1)}, "reset": {drops(1)}, "cut": {cuts(0)}, "the far end resets": {far(0).does(resets(1)), far(0).brings()},
	} {
		b := slow(t, 2)
		b.question(t, 3, "\x06abcdef")
		b.turns(t, 0)
		b.tell(t, 1, "\x01x")
		b.all(t, moves...)
		b.turns(t, 2)
		b.counts(t, 0, 0, 2)
		b.asks(t)
		if b.isHandle(1) && name != "cut" {
			t.Errorf("%s: 1 is a handle", name)
		}
	}
	// A Close ahead of that of the proxy makes its own fail, though nothing is to be written any more.
	cfg := roomy(9)
	cfg.Stage = 2
	b := made(t, roomy(2), 1, 9, cfg, 100, 10)
	b.join(t, 2)
	b.all(t, taps())
	b.question(t, 1, "\x01a")
	b.all(t, shuts(2)) // none yet
	b.turns(t, 0)
	b.all(t, shuts(2)) // closed already
	b.turns(t, 0)
	b.asks(t, api.Asked{Key: "a", Handle: 2, Waiting: []uint32{1}})
}

// All that is asked goes on in one Turn, in its order: what some of it meets is nothing to the others.
func TestP31_1_ManyAreAsked(t *testing.T) {
	for order := range 4 {
		b := asked(t, 1000, "\x01b\x01c\x01d\x01e")
		b.all(t, far(0).does(accepts(), accepts()), pools(4))
		if order%2 == 0 {
			b.tell(t, 5, "\x01C") // no end yet
		}
		b.tellAll(t, 3, "\x01B")
		b.tell(t, 7, "\x01D\x01D")
		b.tellAll(t, 9, "\x01E")
		if order/2 == 0 {
			b.tellAll(t, 1, "\x01A")
			b.turns(t, 2)
			b.asks(t, api.Asked{Key: "c", Handle: 3, Waiting: []uint32{1}})
			b.keeps(t, "e", "b", "a")
			b.counts(t, 0, 3, 1)
			b.hears(t, 1, "\x02\x00A\x02\x00B")
			continue
		}
		b.turns(t, 0)
		b.asks(t, api.Asked{Key: "a", Handle: 1, Waiting: []uint32{1}}, api.Asked{Key: "c", Handle: 3, Waiting: []uint32{1}})
		b.keeps(t, "e", "b")
		b.counts(t, 0, 2, 1)
	}
}

// A thing's weight is that of the bytes of key and value together; the cache keeps it where that is no more than its room.
func TestP31_1_WhatFitsIntoTheCache(t *testing.T) {
	for _, c := range []struct {
		weight, key, value int
		keeps              bool
	}{
		{1, 1, 0, true}, {1, 1, 1, false}, {2, 1, 1, true}, {2, 2, 0, true}, {2, 3, 0, false}, {255, 256, 0, false}, {256, 256, 0, true},
		{65535, 1, 65535, false}, {65536, 1, 65535, true}, {65536, 1, 65536, false}, {65537, 1, 65536, true}, {1 << 40, 256, 65536, true},
	} {
		key, value := strings.Repeat("k", c.key), strings.Repeat("v", c.value)
		b := served(t, 1, 9, c.weight, 10)
		b.known(t, 1, thing{key: key, value: value})
		if !c.keeps {
			b.keeps(t)
			b.counts(t, 0, 1, 0)
			b.question(t, 1, message(key))
			b.turns(t, 0)
			b.asks(t, api.Asked{Key: key, Handle: 2, Waiting: []uint32{1}})
			continue
		}
		b.keeps(t, key)
		b.question(t, 1, message(key))
		b.turns(t, 1)
		b.hears(t, 1, message("\x00"+value))
	}
}

// What is too heavy leaves the cache as it is; what isn't makes what was asked for longest ago go.
func TestP31_1_WhatTheCacheKeeps(t *testing.T) {
	b := served(t, 1, 30, 6, 10)
	b.known(t, 1, thing{key: "a", value: "xx"}, thing{key: "b", value: "yy"})
	b.known(t, 1, thing{key: "c", value: "zzzzzz"})
	b.keeps(t, "b", "a")
	b.question(t, 1, "\x01a")
	b.turns(t, 1)
	b.hears(t, 1, "\x03\x00xx")
	b.keeps(t, "a", "b")
	b.known(t, 1, thing{key: "d", value: ""})
	b.keeps(t, "d", "a")
	b.known(t, 1, thing{key: "e", value: "w"})
	b.keeps(t, "e", "d", "a")
	b.known(t, 1, thing{key: "f", value: "uuuuu"})
	b.keeps(t, "f")
	b.known(t, 1, thing{key: "a", value: "o"}) // another value than before
	b.keeps(t, "a")
	b.question(t, 1, "\x01a")
	b.turns(t, 1)
	b.hears(t, 1, "\x02\x00o")
}

// A key asks for the cache each time that a question of it is looked at, also when it stands behind others.
func TestP31_1_AskedForLast(t *testing.T) {
	b := served(t, 2, 30, 100, 10)
	b.known(t, 1, thing{key: "a", value: "x"}, thing{key: "b", value: "y"}, thing{key: "c", value: "z"})
	b.keeps(t, "c", "b", "a")
	b.question(t, 3, "\x01c\x01b")
	b.question(t, 1, "\x01d\x01b\x01a")
	b.turns(t, 2)
	b.keeps(t, "b", "c", "a")
	b.turns(t, 0)
	b.keeps(t, "b", "c", "a")
	b.counts(t, 4, 3, 0)
}

// Values have any bytes; unlike keys are unlike, whatever their bytes.
func TestP31_1_AnyBytes(t *testing.T) {
	b := served(t, 1, 30, 1000, 10)
	b.known(t, 1, thing{key: "\x00", value: "\x00\x01"}, thing{key: "\x00\x00", value: "\xff"}, thing{key: "\xff", value: "\x80"}, thing{key: "\xfe", value: ""})
	b.question(t, 1, "\x01\xfe\x01\xff\x02\x00\x00\x01\x00")
	b.turns(t, 4)
	b.counts(t, 4, 4, 0)
	b.hears(t, 1, "\x01\x00\x02\x00\x80\x02\x00\xff\x03\x00\x00\x01")
}

// tight: a front that stages so many bytes; the client has asked a, which is cached, so often, and has closed if it is said.
func tight(t *testing.T, stage, often int, closed bool) *both {
	t.Helper()
	cfg := roomy(2)
	cfg.Stage, cfg.Frame = 64, 64
	far := roomy(9)
	b := made(t, cfg, 1, 9, far, 100, 10)
	b.join(t, 1)
	b.known(t, 1, thing{key: "a", value: "xyz"})
	b.all(t, asServer.does(writes(1, strings.Repeat("-", 64-stage)))) // so that only this is free
	b.question2(t, strings.Repeat("\x01a", often), closed)
	return b
}

// question2: the client's bytes come, and its end if it is said, but nothing goes back.
func (b *both) question2(t *testing.T, bytes string, closed bool) {
	t.Helper()
	b.all(t, asClient.does(writes(1, bytes)))
	if closed {
		b.all(t, asClient.does(closes(1)))
	}
	b.all(t, asClient.brings(), asClient.brings())
}

// An answer that the front doesn't take at once goes on in the next Turns; it counts when it leaves the list, and one behind it doesn't ahead of its last byte.
func TestP31_1_AnAnswerInPieces(t *testing.T) {
	for stage := 0; stage <= 12; stage++ {
		b := tight(t, stage, 2, false)
		given, held := 2, max(0, 10-stage)
		if stage < 5 {
			given, held = 1, 5-stage+1+3 // of the second one the key and the value
		}
		b.turns(t, given)
		b.holds(t, held)
		b.turns(t, 0)
		b.all(t, asServer.brings(), asServer.brings())
		b.turns(t, 2-given)
		b.holds(t, 0)
		b.all(t, fronts(3))
		b.says(t, asClient, reads(1, 99), strings.Repeat("-", 64-stage)+"\x04\x00xyz\x04\x00xyz", nil)
	}
}

// The stream is closed behind the last byte of the last answer, not ahead of it, and then its asker goes.
func TestP31_1_TheEndOfAnswers(t *testing.T) {
	for stage := 0; stage <= 11; stage++ {
		b := tight(t, stage, 2, true)
		b.turn(t)
		b.tells(t)
		v, ok := b.front.End(1).View(1)
		if want := stage >= 10; !ok || v.Closing != want {
			t.Fatalf("stage %d: %+v, %v", stage, v, ok)
		}
		if stage >= 10 {
			continue
		}
		b.all(t, asServer.brings(), asServer.brings())
		b.turn(t)
		b.tells(t)
		b.all(t, fronts(3))
		b.says(t, asClient, reads(1, 99), strings.Repeat("-", 64-stage)+"\x04\x00xyz\x04\x00xyz", nil)
		b.says(t, asClient, reads(1, 99), "", api.ErrEOF)
		b.turns(t, 0)
	}
}

// Where questions wait an asker that has ended stays, and isn't read any more.
func TestP31_1_AnAskerThatHasEnded(t *testing.T) {
	b := asked(t, 100, "\x01b")
	b.all(t, asClient.does(closes(1)), fronts(3))
	b.turns(t, 0)
	b.turns(t, 0)
	b.tellAll(t, 1, "\x01x")
	b.turns(t, 1)
	if v, ok := b.front.End(1).View(1); !ok || v.Closing {
		t.Errorf("%+v, %v", v, ok)
	}
	b.tellAll(t, 3, "\x01y")
	b.turns(t, 1)
	b.holds(t, 0)
	b.hears(t, 1, "\x02\x00x\x02\x00y")
	b.says(t, asClient, reads(1, 9), "", api.ErrEOF)
	if ids := b.front.End(1).Streams(); !slices.Equal(ids, []uint32{3}) {
		t.Errorf("the front has %v", ids)
	}
}

// A Write that fails: the asker goes, without a Reset; the answer that was its outbox was given, and the others weren't.
func TestP31_1_AnAskerThatCantBeAnswered(t *testing.T) {
	for name, moves := range map[string][]move{
		"somebody closes": {asServer.does(closes(1))},
		"somebody resets": {asClient.does(closes(1)), fronts(3), asServer.does(resets(1))},
		"client resets":   {asClient.does(closes(1)), fronts(3), asClient.does(resets(1)), asClient.brings()},
	} {
		b := asked(t, 100, "\x01b\x01c\x01a")
		if name == "somebody closes" {
			b.all(t, moves...)
		} else {
			b.all(t, moves[:2]...)
			b.turns(t, 0) // the end is told
			b.all(t, moves[2:]...)
		}
		b.turns(t, 0) // nobody writes yet, and who has ended doesn't read
		b.all(t, far(0).does(accepts(), accepts(), resets(5)), pools(3))
		b.tellAll(t, 1, "\x01x")
		b.asks(t, api.Asked{Key: "a", Handle: 1, Waiting: []uint32{1, 1}}, api.Asked{Key: "b", Handle: 2, Waiting: []uint32{1}}, api.Asked{Key: "c", Handle: 3, Waiting: []uint32{1}})
		before := tickets(b.front.End(1).Tickets())
		b.turns(t, 1)
		b.counts(t, 0, 2, 1)
		b.asks(t, api.Asked{Key: "b", Handle: 2})
		b.holds(t, 0)
		if got := tickets(b.front.End(1).Tickets()); !slices.Equal(got, before) {
			t.Errorf("%s: tickets %v, before %v", name, got, before)
		}
		b.tellAll(t, 3, "\x01y")
		b.turns(t, 0)
		b.keeps(t, "b", "a")
		b.counts(t, 0, 2, 1)
	}
}

// Of 16 questions nothing is read, so that a reset of the client is met where the first answer is written.
func TestP31_1_AResetBehindSixteenQuestions(t *testing.T) {
	b := listed(t, 16)
	b.all(t, asClient.does(resets(1)), asClient.brings())
	b.turns(t, 0)
	b.tellAll(t, 3, "\x01x")
	b.turns(t, 0) // the first one has no answer yet
	b.tellAll(t, 1, "\x01x")
	b.turns(t, 1)
	b.holds(t, 0)
	for _, one := range b.x.Open() {
		if len(one.Waiting) > 0 {
			t.Errorf("%+v", one)
		}
	}
}

// A Close that fails at the end: the asker goes all the same.
func TestP31_1_ACloseThatFails(t *testing.T) {
	b := served(t, 2, 9, 100, 10)
	b.all(t, asServer.does(closes(1)), asClient.does(closes(1)), fronts(1))
	b.turns(t, 0)
	b.all(t, fronts(4))
	if ids := b.front.End(1).Streams(); !slices.Equal(ids, []uint32{3}) {
		t.Errorf("the front has %v", ids)
	}
	b.turns(t, 0)
	b.question(t, 3, "\x01a")
	b.turns(t, 0)
	b.asks(t, api.Asked{Key: "a", Handle: 1, Waiting: []uint32{3}})
}

// Answers go in the order of the questions, whatever answers them and when; one asker that can't be answered yet is in nobody's way.
func TestP31_2_TheOrderOfAnswers(t *testing.T) {
	kinds := []string{"cached", "refused", "first", "second"}
	for order := range 256 {
		b := served(t, 2, 2, 100, 10)
		b.known(t, 1, thing{key: "k", value: "K"})
		bytes, want := "", ""
		for i := range 4 {
			switch kinds[order>>(2*i)&3] {
			case "cached":
				bytes, want = bytes+"\x01k", want+"\x02\x00K"
			case "refused":
				bytes, want = bytes+"\x01r", want+"\x01\x01"
			case "first":
				bytes, want = bytes+"\x01a", want+"\x02\x00A"
			case "second":
				bytes, want = bytes+"\x01b", want+"\x02\x00B"
			}
		}
		b.question(t, 1, "\x01a\x01b") // so that there is no room for r
		b.turns(t, 0)
		b.question(t, 1, bytes)
		b.question(t, 3, bytes)
		b.turn(t)
		b.tells(t)
		b.all(t, pools(3), far(0).does(accepts(), accepts()))
		b.tellAll(t, 5, "\x01B")
		b.turn(t)
		b.tells(t)
		b.tellAll(t, 3, "\x01A")
		b.turn(t)
		b.tells(t)
		b.hears(t, 1, "\x02\x00A\x02\x00B"+want)
		b.hears(t, 3, want)
	}
}

// What is held, from a question's first byte to an answer's last one.
func TestP31_1_Held(t *testing.T) {
	cfg := roomy(9)
	cfg.Stage, cfg.Window = 3, 40
	front := roomy(2)
	front.Stage = 2
	b := made(t, front, 1, 9, cfg, 100, 10)
	b.join(t, 2)
	ask := func(id uint32, bytes string) { // as much at a time as is staged
		for part := range slices.Chunk([]byte(bytes), 2) {
			b.question(t, id, string(part))
		}
	}
	ask(1, "\x06ab")
	b.turns(t, 0)
	b.holds(t, 3) // a part of the question
	ask(1, "cdef\x81")
	b.turns(t, 0)
	b.holds(t, 6+4+1) // the key, what the pool hasn't taken, a part of the next question
	ask(3, "\x06abcdef")
	b.turns(t, 0)
	b.holds(t, 6+4+1+6)
	b.all(t, pools(2))
	b.turns(t, 0)
	b.holds(t, 6+1+1+6)
	b.all(t, pools(2), far(0).does(accepts(), writes(1, "\x05vw")), pools(2))
	b.turns(t, 0)
	b.holds(t, 6+1+6+3) // a part of the answer
	b.all(t, far(0).does(writes(1, "xyz")), pools(2))
	b.turns(t, 0)
	b.holds(t, 6+1+6+5) // the whole one
	b.all(t, far(0).does(closes(1)), pools(2))
	b.turns(t, 2)
	b.holds(t, 1+5+5) // of both answers 7 bytes, of which 2 were taken
	b.all(t, fronts(2))
	b.turns(t, 0)
	b.holds(t, 1+3+3)
	b.all(t, asClient.does(resets(1)), asClient.brings())
	b.turns(t, 0)
	for _, left := range []int{3, 1, 0} {
		b.holds(t, left)
		b.all(t, fronts(2))
		b.turns(t, 0)
	}
	b.all(t, fronts(2))
	b.says(t, asClient, reads(3, 9), "\x06\x00vwxyz", nil)
}

// An answer that stands behind one that isn't there yet is held with its value, as often as it is an answer.
func TestP31_1_HeldOfAnswersThatStandBehind(t *testing.T) {
	b := asked(t, 100, "\x01b\x01c\x01b")
	b.all(t, far(0).does(accepts(), accepts()))
	b.question(t, 3, "\x01b")
	b.turns(t, 0)
	b.holds(t, 5)
	b.tellAll(t, 3, "\x07bbbbbbb")
	b.turns(t, 1)
	b.holds(t, 4+7+7)
	b.all(t, far(0).does(resets(5)), pools(3))
	b.turns(t, 0)
	b.holds(t, 4+7+7)
	b.tellAll(t, 1, "\x00")
	b.turns(t, 4)
	b.holds(t, 0)
	b.hears(t, 1, "\x01\x00\x08\x00bbbbbbb\x01\x01\x08\x00bbbbbbb")
}
