package session_test

import (
	"math"
	"strings"
	"testing"

	"culvert/api"
	"culvert/sentinels"
	"culvert/specimens"
)

const awayProtocol = "00 03 00 00 00 00 00 00 00 00 00 01"

func TestP18_7_FeedBehindTheEndFailsAndDoesNothing(t *testing.T) {
	for _, end := range ends {
		b := server(t)
		b.ping(t)
		b.steps(t, 1)
		end.by(t, b)
		for _, piece := range []string{"", "\x00", string(specimens.Bytes(syn(1), away(0), answers(1))), hexed("01 00 00 00 00 00 00 00 00 00 00 00")} {
			fails(t, end.name, b.feed(t, piece), end.why)
		}
		if b.s.Held() != 0 || len(b.s.Waiting())+len(b.s.Pongs()) != 0 {
			t.Errorf("%s: something was heard", end.name)
		}
	}
}

// What stands behind the frame that ends the session is let go: other frames, a part of one, a header that may not be.
func TestP18_7_WhatStandsBehindTheEndIsLetGo(t *testing.T) {
	for _, code := range []uint32{1, 2} {
		for _, behind := range []string{"", "00 02", "01 00 00 00 00 00 00 09 00 00 00 00", "00 01 00 01 00 00 00 05 00 00 00 00"} {
			b := server(t)
			err := b.feed(t, string(specimens.Bytes(syn(1), asks(7), away(0), away(code)))+hexed(behind))
			fails(t, "Feed", err, api.ErrPeer)
			if here, there := b.s.Away(); here || !there { // the frames ahead of it did what they do
				t.Errorf("Away: %v, %v", here, there)
			}
			b.lays(t, 0, "")
		}
	}
	b := server(t)
	b.breaks(t, api.ErrUnknown, asks(7), data(3, ""))
	b = server(t)
	err := b.feed(t, string(specimens.Bytes(data(3, "abc"), syn(4), asks(7))))
	if !sentinels.Breach(err, 3, api.ErrUnknown) {
		t.Fatalf("Feed: %v", err)
	}
	b.lays(t, 1, awayProtocol)
}

// Each header that may not be is a violation with the header's stream, found at its twelfth byte.
func TestF3_AHeaderThatMayNotBe(t *testing.T) {
	for _, c := range []struct {
		header string
		stream uint32
		why    error
	}{
		{"01 00 00 00 00 00 00 09 00 00 00 00", 9, api.ErrVersion},
		{"00 04 00 00 00 00 00 09 00 00 00 00", 9, api.ErrType},
		{"00 00 00 10 ff ff ff ff 00 00 00 00", math.MaxUint32, api.ErrFlags},
		{"00 01 00 03 00 00 00 01 00 00 00 00", 1, api.ErrFlags},
		{"00 02 00 00 00 00 00 00 00 00 00 00", 0, api.ErrFlags},
		{"00 00 00 00 00 00 00 00 00 00 00 00", 0, api.ErrID},
		{"00 03 00 00 00 00 00 02 00 00 00 00", 2, api.ErrID},
		{"00 03 00 00 00 00 00 00 00 00 00 03", 0, api.ErrLength},
		{"00 01 00 08 00 00 00 01 00 00 00 01", 1, api.ErrLength},
		{"00 00 00 00 00 00 00 01 00 00 00 04", 1, api.ErrLength}, // above Frame, 3
		{"00 00 00 01 00 00 00 01 ff ff ff ff", 1, api.ErrLength},
	} {
		b := server(t)
		b.fed(t, syn(1))
		raw := hexed(c.header)
		fails(t, "Feed", b.feed(t, raw[:11]), nil)
		if b.s.Held() != 11 {
			t.Fatalf("Held: %d", b.s.Held())
		}
		if err := b.feed(t, raw[11:]); !sentinels.Breach(err, c.stream, c.why) {
			t.Fatalf("%s: %v, want %v", c.header, err, c.why)
		}
		b.lays(t, 1, awayProtocol)
	}
}

func TestF3_AFrameThatTheStreamsMayNotHave(t *testing.T) {
	long := changed(func(cfg *api.Config) { cfg.Window, cfg.Frame, cfg.Skip = 2, 8, 1 })
	for _, c := range []struct {
		name   string
		client bool
		by     func(t *testing.T, b *both)
		frame  api.Frame
		why    error
	}{
		{"own parity, server", false, nil, syn(2), api.ErrParity},
		{"own parity, client", true, nil, syn(1), api.ErrParity},
		{"own parity, greatest", true, nil, syn(math.MaxUint32), api.ErrParity},
		{"own parity, open", true, func(t *testing.T, b *both) { b.open(t); b.steps(t, 1) }, specimens.Data(api.FlagSYN, 3, "a"), api.ErrParity},
		{"own parity, ahead of a flood", false, flood, syn(2), api.ErrParity},
		{"used", false, func(t *testing.T, b *both) { b.fed(t, syn(7)) }, syn(7), api.ErrReused},
		{"below the mark", false, func(t *testing.T, b *both) { b.fed(t, syn(7)) }, syn(5), api.ErrReused},
		{"used, and gone", false, func(t *testing.T, b *both) { b.fed(t, syn(7), rst(7)) }, specimens.Data(api.FlagSYN, 7, ""), api.ErrReused},
		{"used, ahead of a flood", false, flood, syn(3), api.ErrReused},
		{"used, and refused", false, func(t *testing.T, b *both) { b.goAway(t); b.fed(t, syn(7)) }, syn(7), api.ErrReused},
		{"a flood", false, flood, syn(5), api.ErrFlood},
		{"a flood of Data", true, func(t *testing.T, b *both) { b.fed(t, syn(2), syn(4)) }, specimens.Data(api.FlagSYN|api.FlagFIN, 6, "a"), api.ErrFlood},
		{"never opened, theirs", false, nil, data(1, ""), api.ErrUnknown},
		{"never opened, RST", false, nil, rst(1), api.ErrUnknown},
		{"above the mark, theirs", false, func(t *testing.T, b *both) { b.fed(t, syn(5)) }, window(0, 7, 0), api.ErrUnknown},
		{"passed over at the beginning, mine", true, nil, ack(1), api.ErrUnknown},
		{"its SYN waits, mine", true, func(t *testing.T, b *both) { b.open(t) }, ack(3), api.ErrUnknown},
		{"its SYN was withdrawn, mine", true, func(t *testing.T, b *both) { b.open(t); b.reset(t, 3) }, rst(3), api.ErrUnknown},
		{"above the mark, mine", true, func(t *testing.T, b *both) { b.open(t); b.step(t); b.open(t) }, data(5, "a"), api.ErrUnknown},
		{"more than the window", false, nil, specimens.Data(api.FlagSYN, 1, "abc"), api.ErrWindow},
		{"more than the window, with FIN", false, func(t *testing.T, b *both) { b.fed(t, syn(1), data(1, "a")) }, last(1, "bc"), api.ErrWindow},
		{"more than is left", true, func(t *testing.T, b *both) { b.open(t); b.steps(t, 1); b.fed(t, data(3, "ab")) }, specimens.Data(api.FlagACK, 3, "c"), api.ErrWindow},
		{"credit on a new one", false, nil, window(api.FlagSYN, 1, 1), api.ErrCredit},
		{"credit, that wraps", false, func(t *testing.T, b *both) { b.fed(t, syn(1)) }, window(0, 1, math.MaxUint32), api.ErrCredit},
		{"credit, with ACK and FIN", true, func(t *testing.T, b *both) { b.open(t); b.write(t, 3, "a"); b.steps(t, 2) }, window(api.FlagACK|api.FlagFIN, 3, 2), api.ErrCredit},
		{"no ping", false, nil, answers(0), api.ErrPing},
		{"no ping of this token", false, func(t *testing.T, b *both) { b.ping(t); b.steps(t, 1) }, answers(2), api.ErrPing},
		{"its Ping waits", false, func(t *testing.T, b *both) { b.ping(t) }, answers(1), api.ErrPing},
		{"answered", false, func(t *testing.T, b *both) { b.ping(t); b.steps(t, 1); b.fed(t, answers(1)) }, answers(1), api.ErrPing},
		{"a flood of pings", false, func(t *testing.T, b *both) { b.fed(t, asks(7)) }, asks(7), api.ErrFlood},
	} {
		b := made(t, long, c.client)
		if c.by != nil {
			c.by(t, b)
		}
		b.breaks(t, c.why, c.frame)
		b.take(t, 1000)
		b.lays(t, 1, awayProtocol)
	}
}

// flood: as many wait and are refused as may.
func flood(t *testing.T, b *both) {
	t.Helper()
	b.fed(t, syn(1))
	b.goAway(t)
	b.fed(t, syn(3))
}

// F9: what waits and what is being refused count together, till it is accepted, reset or told.
func TestF3_ErrFloodCountsWhatWaitsAndTheRefused(t *testing.T) {
	for _, c := range []struct {
		name string
		by   func(t *testing.T, b *both)
		room bool
	}{
		{"nothing", func(t *testing.T, b *both) {}, false},
		{"one that waits is accepted", func(t *testing.T, b *both) { b.accept(t) }, true},
		{"one that waits is reset", func(t *testing.T, b *both) { b.fed(t, rst(1)) }, true},
		{"one that was refused is reset", func(t *testing.T, b *both) { b.fed(t, rst(3)) }, true},
		{"Data for one that was refused", func(t *testing.T, b *both) { b.fed(t, data(3, "abc"), last(3, "")) }, false},
		{"the Away is told", func(t *testing.T, b *both) { b.step(t) }, false},
		{"the refusal is told", func(t *testing.T, b *both) { b.step(t); b.step(t) }, true},
		{"an RST of one that was accepted", func(t *testing.T, b *both) {
			b.accept(t)
			b.reset(t, 1)
			b.fed(t, syn(5))
		}, false},
		{"and that one is told", func(t *testing.T, b *both) {
			b.accept(t)
			b.reset(t, 1)
			b.fed(t, syn(5))
			b.steps(t, 5)
			b.fed(t, syn(7))
		}, true},
	} {
		b := server(t)
		flood(t, b)
		c.by(t, b)
		if err := b.feed(t, string(specimens.Bytes(syn(9)))); (err == nil) != c.room {
			t.Fatalf("%s: %v", c.name, err)
		}
	}
}

// A stream that is refused was never there; the rest of its frame is passed over, whatever it is.
func TestP18_8_BehindGoAwayStreamsAreRefused(t *testing.T) {
	for _, f := range []api.Frame{
		syn(9), specimens.Data(api.FlagSYN, 9, "abcde"), specimens.Data(api.FlagSYN|api.FlagFIN, 9, "a"),
		window(api.FlagSYN, 9, math.MaxUint32), window(api.FlagSYN|api.FlagFIN, 9, 1),
	} {
		b := made(t, changed(func(cfg *api.Config) { cfg.Frame = 5 }), false)
		b.fed(t, syn(1), data(1, "ab"))
		b.goAway(t)
		b.fed(t, f)
		b.tickets(t, awayTicket(0), rstTicket(9))
		b.sees(t, 9, api.StreamView{}, false)
		b.fed(t, data(9, "abcde"), window(0, 9, 5), data(7, "abcde"), last(9, ""))
		b.fed(t, data(1, "cd")) // those that are there go on
		opens(t, 1)(b.accept(t))
		b.reads(t, 1, "abcd", nil)
		b.tickets(t, awayTicket(0), rstTicket(9), ackTicket(1), grantTicket(1, 4))
		b.fed(t, rst(9))
		b.tickets(t, awayTicket(0), ackTicket(1), grantTicket(1, 4))
	}
}

func TestP18_8_BehindTheOtherEndsAwayStreamsGoOn(t *testing.T) {
	b := client(t)
	opens(t, 1)(b.open(t))
	b.write(t, 1, "abc")
	b.fed(t, away(0), away(0), syn(2))
	b.lays(t, 2, "00 01 00 01 00 00 00 01 00 00 00 00"+"00 00 00 00 00 00 00 01 00 00 00 03 61 62 63")
	b.fed(t, ack(1), data(1, "x"))
	b.reads(t, 1, "x", nil)
	opens(t, 2)(b.accept(t))
	opens(t, 1)(b.ping(t))
	b.fed(t, rst(1)) // as a lawful end refuses it
	b.reads(t, 1, "", api.ErrReset)
	refuses(t, api.ErrAway)(b.open(t))
}

func TestP18_8_PingsOfTheOtherEnd(t *testing.T) {
	b := made(t, changed(func(cfg *api.Config) { cfg.Pings = 3 }), false)
	b.fed(t, asks(9), asks(9), asks(math.MaxUint32))
	b.tickets(t, pongTicket(9), pongTicket(9), pongTicket(math.MaxUint32))
	b.ping(t) // this end's don't count
	if !b.step(t) {
		t.Fatal("Step: false")
	}
	b.fed(t, asks(0))
	b.lays(t, 4, "00 02 00 02 00 00 00 00 00 00 00 09"+"00 02 00 02 00 00 00 00 00 00 00 09"+
		"00 02 00 02 00 00 00 00 ff ff ff ff"+"00 02 00 01 00 00 00 00 00 00 00 01"+"00 02 00 02 00 00 00 00 00 00 00 00")
	b.fed(t, asks(1), asks(2), asks(3))
	b.breaks(t, api.ErrFlood, asks(4))
}

func TestP18_8_AnRSTOfAStreamThatWaits(t *testing.T) {
	b := made(t, changed(func(cfg *api.Config) { cfg.Backlog = 3 }), false)
	b.fed(t, syn(1), syn(3), syn(5), data(3, "abc"), rst(3))
	b.list(t, "Waiting", b.s.Waiting(), []uint32{1, 5})
	b.sees(t, 3, api.StreamView{}, false)
	if b.s.Held() != 0 {
		t.Errorf("Held: %d", b.s.Held())
	}
	b.tickets(t)
	b.fed(t, data(3, "abc"), data(3, "abc"), rst(3))
	opens(t, 1)(b.accept(t))
	opens(t, 5)(b.accept(t))
}

func TestP18_8_AnRSTTakesTheTicketsAndTheTurn(t *testing.T) {
	b := server(t)
	b.fed(t, syn(1), syn(3), data(1, "abc"), data(3, "abc"))
	b.accept(t)
	b.accept(t)
	b.write(t, 1, "xy")
	b.write(t, 3, "z")
	b.read(t, 1, 2)
	b.read(t, 3, 2)
	b.tickets(t, ackTicket(1), ackTicket(3), grantTicket(1, 2), grantTicket(3, 2))
	b.fed(t, specimens.Bare(api.TypeData, api.FlagRST, 1, 0))
	b.tickets(t, ackTicket(3), grantTicket(3, 2))
	b.sees(t, 1, api.StreamView{ID: 1, State: api.Reset, Accepted: true}, true)
	b.fed(t, data(1, "abc"), last(1, "abc"), window(api.FlagACK|api.FlagFIN, 1, 99), rst(1)) // nothing, till it is told
	b.sees(t, 1, api.StreamView{ID: 1, State: api.Reset, Accepted: true}, true)
	b.lays(t, 3, "00 01 00 02 00 00 00 03 00 00 00 00"+"00 01 00 00 00 00 00 03 00 00 00 02"+
		"00 00 00 00 00 00 00 03 00 00 00 01 7a")
	fails(t, "Close", b.close(t, 1), api.ErrReset)
	b.fed(t, data(1, "abc"), rst(1)) // nothing, when it is gone
}

func TestF2_AnACKThatIsPassedOver(t *testing.T) {
	b := client(t)
	opens(t, 1)(b.open(t))
	b.fed(t, syn(2), ack(2)) // one that isn't mine, and waits
	b.sees(t, 2, api.StreamView{ID: 2, State: api.SynRecv, Credit: 4, Left: 4}, true)
	opens(t, 2)(b.accept(t))
	b.fed(t, ack(2), window(api.FlagACK|api.FlagFIN, 2, 0)) // the rest of the frame counts
	b.sees(t, 2, api.StreamView{ID: 2, State: api.RemoteClosed, Accepted: true, Credit: 4}, true)
	b.steps(t, 2)
	b.fed(t, specimens.Data(api.FlagACK, 1, "a"), specimens.Data(api.FlagACK, 1, "b"), ack(1))
	b.sees(t, 1, api.StreamView{ID: 1, State: api.Established, Mine: true, Accepted: true, Credit: 4, Left: 2, Unread: 2}, true)
}

// P4: what comes is at most what is left, to the byte; behind the last frame it is passed over.
func TestP18_8_PayloadUpToWhatIsLeft(t *testing.T) {
	b := server(t)
	b.fed(t, specimens.Data(api.FlagSYN, 1, "ab"), data(1, ""), data(1, "cd"), data(1, ""))
	b.sees(t, 1, api.StreamView{ID: 1, State: api.SynRecv, Credit: 4, Unread: 4}, true)
	b.accept(t)
	b.steps(t, 1)
	b.read(t, 1, 1)
	b.sees(t, 1, api.StreamView{ID: 1, State: api.Established, Accepted: true, Credit: 4, Unread: 3, Owed: 1}, true)
	b.read(t, 1, 1)
	b.fed(t, data(1, "e")) // the window is granted, whether the grant was laid out or not
	b.read(t, 1, 2)
	b.tickets(t, grantTicket(1, 4))
	b.fed(t, last(1, "fgh"))
	b.tickets(t)
	b.fed(t, data(1, "xyz"), last(1, "xyz"), window(api.FlagFIN, 1, 0)) // behind the last frame
	b.reads(t, 1, "efgh", nil)
	b.reads(t, 1, "", api.ErrEOF)
	b.tickets(t)
}

func TestP18_8_ADeltaUpToTheWindow(t *testing.T) {
	b := client(t)
	opens(t, 1)(b.open(t))
	b.write(t, 1, "abcdefgh")
	b.steps(t, 3)
	b.fed(t, window(0, 1, 0), window(0, 1, 1))
	b.lays(t, 1, "00 00 00 00 00 00 00 01 00 00 00 01 65")
	b.fed(t, window(0, 1, 3), window(0, 1, 1))
	b.sees(t, 1, api.StreamView{ID: 1, State: api.SynSent, Mine: true, Staged: 3, Credit: 4, Left: 4}, true)
	b.lays(t, 1, "00 00 00 00 00 00 00 01 00 00 00 03 66 67 68")
	b.breaks(t, api.ErrCredit, window(0, 1, 4))
}

func TestP18_8_FINOfAWindowFrame(t *testing.T) {
	b := server(t)
	b.fed(t, syn(1), data(1, "abc"))
	b.accept(t)
	b.write(t, 1, "wxyz")
	b.steps(t, 3)
	b.write(t, 1, "1")
	b.read(t, 1, 2)
	b.read(t, 1, 1)
	b.tickets(t, grantTicket(1, 2))
	b.fed(t, window(api.FlagFIN, 1, 2))
	b.tickets(t)
	b.sees(t, 1, api.StreamView{ID: 1, State: api.RemoteClosed, Accepted: true, Staged: 1, Credit: 2}, true)
	b.reads(t, 1, "", api.ErrEOF)
	b.lays(t, 1, "00 00 00 00 00 00 00 01 00 00 00 01 31")
}

// F5: tickets go ahead of all Data, in the order in which they came; each stream has its turn.
func TestP18_9_TicketsFirstThenTurns(t *testing.T) {
	b := made(t, changed(func(cfg *api.Config) { cfg.Streams, cfg.Backlog, cfg.Window, cfg.Frame, cfg.Out = 3, 3, 6, 2, 1000 }), true)
	for range 3 {
		b.open(t)
	}
	b.write(t, 5, "abcd")
	b.write(t, 1, "efg")
	b.write(t, 5, "!")
	b.goAway(t)
	b.ping(t)
	b.fed(t, asks(9))
	b.write(t, 3, "hi")
	b.lays(t, 12, "00 01 00 01 00 00 00 01 00 00 00 00"+"00 01 00 01 00 00 00 03 00 00 00 00"+"00 01 00 01 00 00 00 05 00 00 00 00"+
		"00 03 00 00 00 00 00 00 00 00 00 00"+"00 02 00 01 00 00 00 00 00 00 00 01"+"00 02 00 02 00 00 00 00 00 00 00 09"+
		"00 00 00 00 00 00 00 05 00 00 00 02 61 62"+"00 00 00 00 00 00 00 01 00 00 00 02 65 66"+
		"00 00 00 00 00 00 00 03 00 00 00 02 68 69"+"00 00 00 00 00 00 00 05 00 00 00 02 63 64"+
		"00 00 00 00 00 00 00 01 00 00 00 01 67"+"00 00 00 00 00 00 00 05 00 00 00 01 21")
}

// turnsOf: whose Data the next Steps lay out, one at a time.
func (b *both) turnsOf(t *testing.T) string {
	t.Helper()
	var turns []byte
	for b.step(t) {
		f := b.take(t, 1<<20)
		turns = append(turns, '0'+f[7])
	}
	return string(turns)
}

func TestP18_9_AStreamThatGetsItsTurnAnewStandsBehindAllOthers(t *testing.T) {
	cfg := changed(func(cfg *api.Config) { cfg.Streams, cfg.Backlog, cfg.Window, cfg.Frame = 3, 3, 6, 2 })
	begin := func() *both {
		b := made(t, cfg, true)
		for range 3 {
			b.open(t)
		}
		b.steps(t, 3)
		return b
	}
	for _, c := range []struct {
		name string
		by   func(b *both)
		want string
	}{
		{"each in its turn", func(b *both) { b.write(t, 5, "abcdef"); b.write(t, 1, "abc"); b.write(t, 3, "a") }, "513515"},
		{"a turn that is there is kept", func(b *both) { b.write(t, 5, "a"); b.write(t, 1, "ab"); b.write(t, 5, "bc") }, "515"},
		{"behind its own frame", func(b *both) {
			b.write(t, 5, "ab")
			b.write(t, 1, "abcd")
			b.step(t)
			b.take(t, 99)
			b.write(t, 5, "c")
		}, "151"},
		{"no credit, no turn", func(b *both) { b.write(t, 1, "abcdefgh"); b.write(t, 3, "a") }, "1311"},
		{"credit gives one anew", func(b *both) {
			b.write(t, 1, "abcdefgh")
			b.turnsOf(t)
			b.write(t, 3, "abc")
			b.fed(t, window(0, 1, 1))
			b.write(t, 5, "a")
		}, "3153"},
		{"more credit gives no second one", func(b *both) {
			b.write(t, 1, "abcdefgh")
			b.turnsOf(t)
			b.fed(t, window(0, 1, 1))
			b.write(t, 3, "a")
			b.fed(t, window(0, 1, 1))
		}, "13"},
		{"Close with nothing staged", func(b *both) { b.write(t, 3, "a"); b.close(t, 1); b.close(t, 3); b.write(t, 5, "a") }, "315"},
		{"Close with no credit and nothing staged", func(b *both) {
			b.write(t, 1, "abcdef")
			b.turnsOf(t)
			b.close(t, 1)
		}, "1"},
		{"Close with no credit and something staged", func(b *both) {
			b.write(t, 1, "abcdefg")
			b.turnsOf(t)
			b.close(t, 1)
		}, ""},
		{"and credit behind that", func(b *both) {
			b.write(t, 1, "abcdefg")
			b.turnsOf(t)
			b.close(t, 1)
			b.fed(t, window(0, 1, 1))
		}, "1"},
		{"Reset takes the turn", func(b *both) {
			b.write(t, 1, "ab")
			b.write(t, 3, "ab")
			b.reset(t, 1)
			b.take(t, 99)
		}, "13"}, // the first is the RST
		{"Write of nothing gives none", func(b *both) { b.write(t, 1, "") }, ""},
	} {
		b := begin()
		c.by(b)
		if got := b.turnsOf(t); got != c.want {
			t.Errorf("%s: %s, want %s", c.name, got, c.want)
		}
	}
}

// The payload is as much as is staged, as the credit has and as a frame takes, whichever is least.
func TestP18_9_ThePayloadOfAFrame(t *testing.T) {
	for _, c := range []struct{ window, frame, staged int }{
		{1, 1, 1}, {5, 3, 2}, {5, 3, 3}, {5, 3, 4}, {2, 3, 4}, {3, 3, 4}, {9, 9, 8}, {1 << 30, 1 << 16, 1 << 20},
	} {
		cfg := changed(func(cfg *api.Config) {
			cfg.Window, cfg.Frame, cfg.Stage, cfg.Out = c.window, c.frame, max(8, c.staged), 1
		})
		b := made(t, cfg, true)
		b.quick = true
		b.open(t)
		b.step(t)
		b.take(t, 99)
		text := strings.Repeat("abcdefgh", 1<<17)[:c.staged]
		b.write(t, 1, text)
		b.close(t, 1)
		got := ""
		for b.step(t) {
			f := b.take(t, 1<<20)
			got += f[12:]
			rest := min(c.staged, c.window) - len(got)
			if fin := f[3] == byte(api.FlagFIN); len(f) != 12+c.frame && rest != 0 || fin != (len(got) == c.staged) {
				t.Fatalf("%+v: a frame of %d bytes, FIN %v", c, len(f)-12, fin)
			}
		}
		if got != text[:min(c.staged, c.window)] {
			t.Fatalf("%+v: %d bytes", c, len(got))
		}
		b.same(t)
	}
}

// A frame is laid out while fewer than Out bytes wait, however long it is.
func TestP18_9_StepWaitsTillFewerThanOutBytesWait(t *testing.T) {
	for _, limit := range []int{1, 11, 12, 13, 24, 25} {
		b := made(t, changed(func(cfg *api.Config) { cfg.Out, cfg.Pings = limit, 5 }), true)
		for range 5 {
			b.ping(t)
		}
		laid := 0
		for b.step(t) {
			laid++
		}
		if want := (limit + 11) / 12; laid != want || b.s.Pending() != 12*want {
			t.Fatalf("Out %d: %d frames, %d bytes", limit, laid, b.s.Pending())
		}
		b.take(t, 12*laid-limit)
		if b.step(t) {
			t.Fatalf("Out %d: a Step with %d bytes that wait", limit, b.s.Pending())
		}
		b.take(t, 1)
		if !b.step(t) {
			t.Fatalf("Out %d: no Step with %d bytes that wait", limit, b.s.Pending())
		}
	}
}

// The Away frame of a violation stands behind the bytes that wait, and waits for room like any other.
func TestP5_TheAwayFrameIsLaidOutLikeAnyOther(t *testing.T) {
	b := made(t, changed(func(cfg *api.Config) { cfg.Out = 20 }), false)
	b.goAway(t)
	b.fed(t, asks(7))
	b.step(t)
	b.step(t)
	b.fed(t, syn(1))
	b.breaks(t, api.ErrUnknown, data(3, ""))
	b.tickets(t, awayTicket(1))
	if b.step(t) {
		t.Fatal("a Step with 24 bytes that wait")
	}
	first := b.take(t, 5)
	b.lays(t, 1, "00 00 00 00 00 00 00"+"00 02 00 02 00 00 00 00 00 00 00 07"+awayProtocol)
	if first != hexed("00 03 00 00 00") {
		t.Errorf("Take: % x", first)
	}
}

func TestP18_10_TakeGivesAnyPieces(t *testing.T) {
	b := made(t, changed(func(cfg *api.Config) { cfg.Out = 1000 }), true)
	b.open(t)
	b.write(t, 1, "abcd")
	for b.step(t) {
	}
	all := hexed("00 01 00 01 00 00 00 01 00 00 00 00" +
		"00 00 00 00 00 00 00 01 00 00 00 03 61 62 63" + "00 00 00 00 00 00 00 01 00 00 00 01 64")
	for _, n := range []int{0, -1, math.MinInt, 1, 11, 0, 3, 14, math.MaxInt, 1, 0, -5, math.MaxInt} {
		want := all[:max(0, min(n, len(all)))]
		if got := b.take(t, n); got != want {
			t.Fatalf("Take(%d): % x, want % x", n, got, want)
		}
		all = all[len(want):]
	}
}

func TestP18_11_HeldCountsAllThatIsHeld(t *testing.T) {
	b := client(t)
	opens(t, 1)(b.open(t))
	held := func(want int) {
		t.Helper()
		if got := b.s.Held(); got != want {
			t.Fatalf("Held: %d, want %d", got, want)
		}
	}
	b.write(t, 1, "abcde")
	held(5)
	b.step(t)
	held(5 + 12)
	b.step(t)
	held(5 + 12 + 12)
	b.take(t, 20)
	held(5 + 4)
	b.fed(t, syn(2), data(2, "xy"), data(1, "z"))
	held(5 + 4 + 3)
	b.feed(t, string(specimens.Bytes(data(1, "abc")))[:14])
	held(5 + 4 + 3 + 14)
	b.read(t, 1, 9)
	held(5 + 4 + 2 + 14)
	b.accept(t)
	b.read(t, 2, 9)
	held(5 + 4 + 14)
	b.reset(t, 1)
	held(3 + 4 + 14)
	b.feed(t, "c") // of a stream that is gone
	held(3 + 4)
}

// What goes and what stays at each end of a session.
func TestP18_6_WhatIsLeftBehindEachEnd(t *testing.T) {
	for _, end := range ends {
		b := made(t, changed(func(cfg *api.Config) { cfg.Streams, cfg.Pings, cfg.Out = 3, 2, 1000 }), true)
		opens(t, 1)(b.open(t))
		opens(t, 3)(b.open(t))
		b.steps(t, 2)
		b.write(t, 1, "abcdef")
		b.step(t) // 15 bytes wait
		b.fed(t, syn(2), data(2, "xyz"), syn(4), data(1, "hi"), last(3, "hey"), asks(5), away(0))
		b.accept(t)
		b.read(t, 2, 1)
		b.ping(t)
		b.goAway(t)
		end.by(t, b)
		cut, failed := end.why == api.ErrCut, end.why == api.ErrPeer
		if here, there := b.s.Away(); !here || !there {
			t.Errorf("%s: Away: %v, %v", end.name, here, there)
		}
		if len(b.s.Waiting())+len(b.s.Pinged())+len(b.s.Pongs()) != 0 || b.s.Left() != 1<<31-2 {
			t.Errorf("%s: something waits", end.name)
		}
		switch {
		case cut:
			b.tickets(t)
			b.list(t, "Streams", b.s.Streams(), []uint32{1, 2, 3})
			b.sees(t, 1, api.StreamView{ID: 1, State: api.SynSent, Mine: true, Unread: 2}, true)
			b.sees(t, 2, api.StreamView{ID: 2, State: api.Established, Accepted: true, Unread: 2}, true)
			if b.s.Pending() != 0 || b.s.Held() != 2+2+3 {
				t.Errorf("Pending %d, Held %d", b.s.Pending(), b.s.Held())
			}
		case failed:
			b.tickets(t)
			b.lays(t, 0, "00 00 00 00 00 00 00 01 00 00 00 03 61 62 63")
		default:
			b.tickets(t, awayTicket(1))
			b.lays(t, 1, "00 00 00 00 00 00 00 01 00 00 00 03 61 62 63"+awayProtocol)
		}
		if !cut && len(b.s.Streams())+b.s.Held() != 0 {
			t.Errorf("%s: something is left", end.name)
		}
	}
}

// A half frame is let go at each end, too.
func TestP18_6_TheDecoderLetsGoWhatItHolds(t *testing.T) {
	b := server(t)
	b.feed(t, "\x00\x01\x00")
	b.cut(t)
	if b.s.Held() != 0 {
		t.Errorf("Held: %d", b.s.Held())
	}
	for _, f := range []api.Frame{away(1), data(1, "")} {
		b := server(t)
		b.feed(t, string(specimens.Bytes(f))+"\x00\x01\x00")
		if b.s.Held() != 0 {
			t.Errorf("Held: %d", b.s.Held())
		}
	}
}

// A Cut behind an end lets go what waits to be taken and the ticket; why it is over stays.
func TestP18_6_ACutOfASessionThatIsOver(t *testing.T) {
	for _, end := range ends {
		b := client(t)
		opens(t, 1)(b.open(t))
		b.steps(t, 1)
		b.fed(t, data(1, "hi"))
		b.ping(t)
		b.step(t)
		end.by(t, b)
		for range 2 {
			b.cut(t)
			fails(t, end.name, b.s.Err(), end.why)
			b.tickets(t)
			if b.s.Pending() != 0 || b.step(t) {
				t.Errorf("%s: something is to be taken", end.name)
			}
		}
		if end.why == api.ErrCut {
			b.reads(t, 1, "hi", nil) // again cut, and still there
			b.reads(t, 1, "", api.ErrCut)
		}
	}
}

// F8: a cut makes no stream leave; one whose end was told leaves when it is told again, and by nothing else.
func TestP18_6_ACutLeavesStreamsInTheTable(t *testing.T) {
	b := client(t)
	opens(t, 1)(b.open(t))
	b.steps(t, 1)
	b.fed(t, last(1, ""))
	b.reads(t, 1, "", api.ErrEOF)
	b.cut(t)
	b.list(t, "Streams", b.s.Streams(), []uint32{1})
	for range 2 {
		_, err := b.write(t, 1, "a")
		fails(t, "Write", err, api.ErrCut)
		fails(t, "Close", b.close(t, 1), api.ErrCut)
		fails(t, "Reset", b.reset(t, 1), api.ErrCut)
		_, err = b.read(t, 1, 0)
		fails(t, "Read(0)", err, nil)
		_, err = b.read(t, 1, -1)
		fails(t, "Read(-1)", err, api.ErrRange)
	}
	b.reads(t, 1, "", api.ErrEOF)
	b.reads(t, 1, "", api.ErrNoStream)
}

// Behind a cut nothing that is read is granted, and nothing is laid out.
func TestP18_6_BehindACutNothingIsLaidOut(t *testing.T) {
	b := server(t)
	b.fed(t, syn(1), data(1, "abc"))
	b.accept(t)
	b.write(t, 1, "xyz")
	b.read(t, 1, 1)
	b.cut(t)
	for _, want := range []string{"b", "c"} {
		if got, err := b.read(t, 1, 1); got != want || err != nil {
			t.Fatalf("Read: %q, %v", got, err)
		}
	}
	b.tickets(t)
	b.lays(t, 0, "")
}

func TestP18_11_ViewsOfStreams(t *testing.T) {
	b := made(t, changed(func(cfg *api.Config) { cfg.Streams, cfg.Backlog = 3, 4 }), true)
	for range 3 {
		b.open(t)
	}
	b.fed(t, syn(4), syn(2000), syn(math.MaxUint32-1))
	for range 2 {
		b.accept(t)
	}
	b.list(t, "Streams", b.s.Streams(), []uint32{1, 3, 4, 5, 2000})
	b.list(t, "Waiting", b.s.Waiting(), []uint32{math.MaxUint32 - 1})
	for _, id := range []uint32{0, 2, 6, 7, 1998, math.MaxUint32} {
		b.sees(t, id, api.StreamView{}, false)
	}
	b.breaks(t, api.ErrReused, syn(math.MaxUint32-1))
}
