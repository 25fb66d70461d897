package session_test

import (
	"math"
	"strings"
	"testing"

	"culvert/api"
	"culvert/sentinels"
	"culvert/session"
	"culvert/specimens"
)

// fields: each number of a configuration, with the range that P18.1 gives it.
var fields = []struct {
	name        string
	of          func(cfg *api.Config) *int
	least, most int
}{
	{"Window", func(cfg *api.Config) *int { return &cfg.Window }, 1, 1<<31 - 1},
	{"Stage", func(cfg *api.Config) *int { return &cfg.Stage }, 1, 1 << 20},
	{"Frame", func(cfg *api.Config) *int { return &cfg.Frame }, 1, 1 << 16},
	{"Streams", func(cfg *api.Config) *int { return &cfg.Streams }, 1, 4096},
	{"Backlog", func(cfg *api.Config) *int { return &cfg.Backlog }, 1, 1024},
	{"Pings", func(cfg *api.Config) *int { return &cfg.Pings }, 1, 1024},
	{"Out", func(cfg *api.Config) *int { return &cfg.Out }, 1, 1 << 20},
	{"Skip", func(cfg *api.Config) *int { return &cfg.Skip }, 0, 1<<31 - 1},
}

func mayBe(t *testing.T, cfg api.Config, want error) {
	t.Helper()
	fails(t, "Check", session.Check(cfg), want)
	if (session.Cap(cfg) == 0) != (want != nil) {
		t.Fatalf("Cap(%+v): %d", cfg, session.Cap(cfg))
	}
	for _, client := range []bool{true, false} {
		s, err := session.New(cfg, client)
		fails(t, "New", err, want)
		if (s == nil) != (want != nil) {
			t.Fatalf("New(%+v): %v", cfg, s)
		}
	}
}

func TestP18_1_EachNumberOfAConfigurationHasItsRange(t *testing.T) {
	for _, f := range fields {
		for _, n := range []int{f.least, f.least + 1, f.most / 2, f.most - 1, f.most} {
			mayBe(t, changed(func(cfg *api.Config) { *f.of(cfg) = n }), nil)
		}
		for _, n := range []int{
			math.MinInt, math.MinInt + 1, -1 << 32, -1, f.least - 1,
			f.most + 1, f.most + 2, 2*f.most + 1, 1 << 32, 1<<32 + 1, 1<<32 + 4, math.MaxInt,
		} {
			mayBe(t, changed(func(cfg *api.Config) { *f.of(cfg) = n }), api.ErrConfig)
		}
	}
	mayBe(t, api.Config{}, api.ErrConfig)
}

func TestP18_1_CapIsTheSum(t *testing.T) {
	greatest, least := small(), small()
	for _, f := range fields {
		*f.of(&greatest), *f.of(&least) = f.most, f.least
	}
	for _, c := range []struct {
		cfg  api.Config
		want int
	}{
		{small(), 6*12 + 64 + 3*15},
		{least, 3*2 + 1 + 3*13},
		{greatest, 9216*2148532223 + 1048576 + 3*65548},
		{api.Config{Window: 2, Stage: 3, Frame: 5, Streams: 7, Backlog: 11, Pings: 13, Out: 17, Skip: 19}, 25*5 + 17 + 3*17},
	} {
		mayBe(t, c.cfg, nil)
		if got := session.Cap(c.cfg); got != c.want {
			t.Errorf("Cap(%+v): %d, want %d", c.cfg, got, c.want)
		}
	}
}

func TestP18_1_ANewSessionHasNothingInIt(t *testing.T) {
	for _, isClient := range []bool{true, false} {
		b := made(t, small(), isClient)
		b.step(t)
		b.take(t, 100)
		b.pongs(t)
		if _, err := b.accept(t); err != api.ErrEmpty {
			t.Errorf("Accept: %v", err)
		}
		if err := b.feed(t, ""); err != nil {
			t.Errorf("Feed of nothing: %v", err)
		}
	}
}

// reads: what a Read of up to nine bytes must answer.
func (b *both) reads(t *testing.T, id uint32, want string, why error) {
	t.Helper()
	got, err := b.read(t, id, 9)
	fails(t, "Read", err, why)
	if got != want {
		t.Fatalf("Read(%d, 9): %q, want %q", id, got, want)
	}
}

// lays: so many Steps lay out just these bytes, and no further Step lays out any.
func (b *both) lays(t *testing.T, many int, want string) string {
	t.Helper()
	got := b.steps(t, many)
	if got != hexed(want) {
		t.Fatalf("% x, want %s", got, want)
	}
	return got
}

// opens: a number that a call must answer.
func opens(t *testing.T, want uint32) func(uint32, error) {
	t.Helper()
	return func(got uint32, err error) {
		t.Helper()
		if got != want || err != nil {
			t.Fatalf("%d, %v, want %d", got, err, want)
		}
	}
}

// refuses: an error that a call must answer beside no number.
func refuses(t *testing.T, want error) func(uint32, error) {
	t.Helper()
	return func(got uint32, err error) {
		t.Helper()
		fails(t, "the call", err, want)
		if got != 0 {
			t.Fatalf("%d beside %v", got, err)
		}
	}
}

// The chapter's examples 1 to 3, whose bytes go over one at a time.
func TestP18_9_ExamplesOneToThree(t *testing.T) {
	c, s := client(t), server(t)
	over := func(to *both, b string) {
		t.Helper()
		for i := range b {
			if err := to.feed(t, b[i:i+1]); err != nil {
				t.Fatalf("Feed: %v", err)
			}
		}
	}
	opens(t, 1)(c.open(t))
	if n, err := c.write(t, 1, "abcde"); n != 5 || err != nil {
		t.Fatalf("Write: %d, %v", n, err)
	}
	over(s, c.lays(t, 3, "00 01 00 01 00 00 00 01 00 00 00 00"+
		"00 00 00 00 00 00 00 01 00 00 00 03 61 62 63"+"00 00 00 00 00 00 00 01 00 00 00 01 64"))
	c.sees(t, 1, api.StreamView{ID: 1, State: api.SynSent, Mine: true, Staged: 1, Credit: 0, Left: 4}, true)

	s.list(t, "Waiting", s.s.Waiting(), []uint32{1})
	s.reads(t, 1, "", api.ErrNoStream)
	opens(t, 1)(s.accept(t))
	s.reads(t, 1, "abcd", nil)
	s.tickets(t, ackTicket(1), grantTicket(1, 4))
	over(c, s.lays(t, 2, "00 01 00 02 00 00 00 01 00 00 00 00"+"00 01 00 00 00 00 00 01 00 00 00 04"))

	c.sees(t, 1, api.StreamView{ID: 1, State: api.Established, Mine: true, Accepted: true, Staged: 1, Credit: 4, Left: 4}, true)
	fails(t, "Close", c.close(t, 1), nil)
	over(s, c.lays(t, 1, "00 00 00 04 00 00 00 01 00 00 00 01 65"))
	s.reads(t, 1, "e", nil)
	s.reads(t, 1, "", api.ErrEOF)
	s.sees(t, 1, api.StreamView{ID: 1, State: api.RemoteClosed, Accepted: true, Credit: 4, Ended: true}, true)
	fails(t, "Close", s.close(t, 1), nil)
	over(c, s.lays(t, 1, "00 00 00 04 00 00 00 01 00 00 00 00"))
	s.reads(t, 1, "", api.ErrNoStream)
	c.reads(t, 1, "", api.ErrEOF)
	c.reads(t, 1, "", api.ErrNoStream)
	if c.s.Held()+s.s.Held()+len(c.s.Streams())+len(s.s.Streams()) != 0 {
		t.Error("something is left")
	}
}

func TestP18_8_ExampleFourAStreamThatWasNeverOpened(t *testing.T) {
	s := server(t)
	err := s.feed(t, hexed("00 00 00 00 00 00 00 03 00 00 00 00"))
	if !sentinels.Breach(err, 3, api.ErrUnknown) {
		t.Fatalf("Feed: %v", err)
	}
	s.lays(t, 1, "00 03 00 00 00 00 00 00 00 00 00 01")
	refuses(t, &api.Violation{Stream: 3, Why: api.ErrUnknown})(s.open(t))
}

func TestP18_5_ExampleFiveResetAheadOfTheSYN(t *testing.T) {
	c := client(t)
	opens(t, 1)(c.open(t))
	fails(t, "Reset", c.reset(t, 1), nil)
	c.tickets(t)
	c.lays(t, 0, "")
	opens(t, 3)(c.open(t))
}

func TestP18_5_ExampleSixResetAndCut(t *testing.T) {
	c := client(t)
	opens(t, 1)(c.open(t))
	opens(t, 3)(c.open(t))
	c.steps(t, 2)
	c.fed(t, rst(1))
	c.cut(t)
	c.reads(t, 1, "", api.ErrReset)
	c.reads(t, 1, "", api.ErrNoStream)
	for range 3 {
		if got, err := c.read(t, 3, 0); got != "" || err != nil {
			t.Fatalf("Read(3, 0): %q, %v", got, err)
		}
		if _, err := c.read(t, 3, 1); err != api.ErrCut {
			t.Fatalf("Read(3, 1): %v", err)
		}
		c.list(t, "Streams", c.s.Streams(), []uint32{3})
	}
}

func TestP18_7_ExampleSevenTheFirstViolationCounts(t *testing.T) {
	s := server(t)
	err := s.feed(t, hexed("00 02 00 02 00 00 00 00 00 00 00 01"+"01 00 00 00 00 00 00 09 00 00 00 00"))
	if !sentinels.Breach(err, 0, api.ErrPing) {
		t.Fatalf("Feed: %v", err)
	}
}

// whole is the configuration of DOC.md's examples of the whole; these are the first eight.
func whole() api.Config { return changed(func(cfg *api.Config) { cfg.Streams = 4 }) }

func TestP3_ExamplesOfTheWholeOneToThree(t *testing.T) {
	c, s := made(t, whole(), true), made(t, whole(), false)
	opens(t, 1)(c.open(t))
	opens(t, 3)(c.open(t))
	opens(t, 2)(s.open(t))
	opens(t, 4)(s.open(t))
	if n, _ := c.write(t, 1, "abcdefghij"); n != 8 {
		t.Fatalf("Write: %d", n)
	}
	fails(t, "Reset", c.reset(t, 3), nil)
	s.feed(t, c.lays(t, 3, "00 01 00 01 00 00 00 01 00 00 00 00"+
		"00 00 00 00 00 00 00 01 00 00 00 03 61 62 63"+"00 00 00 00 00 00 00 01 00 00 00 01 64"))
	s.steps(t, 2)
	opens(t, 1)(s.accept(t))
	s.steps(t, 1)
	for _, read := range []struct {
		n       int
		gave    string
		tickets []api.Ticket
	}{{1, "a", nil}, {2, "bc", []api.Ticket{grantTicket(1, 3)}}} {
		if gave, _ := s.read(t, 1, read.n); gave != read.gave {
			t.Fatalf("Read(1, %d): %q", read.n, gave)
		}
		s.tickets(t, read.tickets...)
	}
}

// F4: with the window 1 each byte that is read is granted; with 5 the threshold is 3.
func TestF4_WhenWhatWasReadIsGranted(t *testing.T) {
	for _, c := range []struct{ window, threshold int }{{1, 1}, {2, 1}, {3, 2}, {4, 2}, {5, 3}, {6, 3}, {7, 4}} {
		b := made(t, changed(func(cfg *api.Config) { cfg.Window, cfg.Frame = c.window, 9 }), false)
		b.fed(t, syn(1), data(1, "abcdefg"[:c.window]))
		b.accept(t)
		b.steps(t, 1)
		for read := 1; read <= c.window; read++ {
			b.read(t, 1, 1)
			owed := read % c.threshold
			var want []api.Ticket
			if granted := read - owed; granted > 0 {
				want = append(want, grantTicket(1, uint32(granted)))
			}
			b.tickets(t, want...)
			if v, _ := b.s.View(1); v.Owed != owed || v.Left != read-owed || v.Unread != c.window-read {
				t.Fatalf("window %d, %d were read: %+v", c.window, read, v)
			}
		}
	}
}

func TestF6_ExampleOfTheWholeFourTheLastFrame(t *testing.T) {
	c := made(t, whole(), true)
	opens(t, 1)(c.open(t))
	opens(t, 3)(c.open(t))
	c.steps(t, 2)
	c.write(t, 1, "ab")
	c.close(t, 1)
	c.lays(t, 1, "00 00 00 04 00 00 00 01 00 00 00 02 61 62")
	c.write(t, 3, "abcd")
	c.lays(t, 2, "00 00 00 00 00 00 00 03 00 00 00 03 61 62 63"+"00 00 00 00 00 00 00 03 00 00 00 01 64")
	c.close(t, 3) // the credit is 0
	c.lays(t, 1, "00 00 00 04 00 00 00 03 00 00 00 00")
	c.fed(t, last(1, "hey"))
	c.reads(t, 1, "hey", nil)
	c.reads(t, 1, "", api.ErrEOF)
}

func TestP5_ExampleOfTheWholeSixNothingIsDeliveredBehindAViolation(t *testing.T) {
	c := made(t, whole(), true)
	opens(t, 1)(c.open(t))
	c.steps(t, 1)
	c.write(t, 1, "x")
	c.step(t)
	c.fed(t, data(1, "abc"))
	c.breaks(t, api.ErrWindow, data(1, "de"))
	c.reads(t, 1, "", &api.Violation{Stream: 1, Why: api.ErrWindow})
	c.lays(t, 1, "00 00 00 00 00 00 00 01 00 00 00 01 78"+"00 03 00 00 00 00 00 00 00 00 00 01")
}

func TestF2_ExampleOfTheWholeSevenDataForAStreamThatWasReset(t *testing.T) {
	c := made(t, whole(), true)
	opens(t, 1)(c.open(t))
	c.steps(t, 1)
	fails(t, "Reset", c.reset(t, 1), nil)
	c.fed(t, data(1, "abc"), data(1, "def"), last(1, "ghi"))
	c.lays(t, 1, "00 01 00 08 00 00 00 01 00 00 00 00")
	if c.s.Held() != 0 {
		t.Errorf("Held: %d", c.s.Held())
	}
}

func TestF7_ExampleOfTheWholeEightACutWithBytesUnread(t *testing.T) {
	for _, c := range []struct {
		frame  api.Frame
		behind error
		again  error
	}{{data(1, "hi"), api.ErrCut, api.ErrCut}, {last(1, "hi"), api.ErrEOF, api.ErrNoStream}} {
		b := made(t, whole(), true)
		opens(t, 1)(b.open(t))
		b.steps(t, 1)
		b.fed(t, c.frame)
		b.cut(t)
		b.reads(t, 1, "hi", nil)
		b.reads(t, 1, "", c.behind)
		b.reads(t, 1, "", c.again)
	}
}

func TestR7_ANilSessionIsAnEmptyOne(t *testing.T) {
	var s *session.Session
	refuses(t, api.ErrNil)(s.Open())
	refuses(t, api.ErrNil)(s.Accept())
	refuses(t, api.ErrNil)(s.Ping())
	for _, id := range []uint32{0, 1, 2, math.MaxUint32} {
		if n, err := s.Write(id, []byte("a")); n != 0 || !sentinels.Just(err, api.ErrNil) {
			t.Errorf("Write: %d, %v", n, err)
		}
		for _, n := range []int{-1, 0, 1} {
			if b, err := s.Read(id, n); len(b) != 0 || !sentinels.Just(err, api.ErrNil) {
				t.Errorf("Read: %v, %v", b, err)
			}
		}
		fails(t, "Close", s.Close(id), api.ErrNil)
		fails(t, "Reset", s.Reset(id), api.ErrNil)
		if v, ok := s.View(id); v != (api.StreamView{}) || ok {
			t.Errorf("View(%d): %+v, %v", id, v, ok)
		}
	}
	fails(t, "GoAway", s.GoAway(), api.ErrNil)
	fails(t, "Feed", s.Feed([]byte("a")), api.ErrNil)
	fails(t, "Feed", s.Feed(nil), api.ErrNil)
	s.Cut()
	fails(t, "Err", s.Err(), nil)
	here, there := s.Away()
	if here || there || s.Step() || s.Left()+s.Pending()+s.Held() != 0 {
		t.Error("something is told of a nil session")
	}
	if len(s.Pongs())+len(s.Take(5))+len(s.Streams())+len(s.Waiting())+len(s.Tickets())+len(s.Pinged()) != 0 {
		t.Error("a nil session has something in it")
	}
}

// An end of a session, by what brings it about, and what its calls fail with then.
var ends = []struct {
	name string
	by   func(t *testing.T, b *both)
	why  error
}{
	{"a violation", func(t *testing.T, b *both) { b.breaks(t, api.ErrPing, answers(77)) }, &api.Violation{Why: api.ErrPing}},
	{"a header that may not be", func(t *testing.T, b *both) {
		b.feed(t, hexed("00 07 00 00 00 00 00 05 00 00 00 00"))
	}, &api.Violation{Stream: 5, Why: api.ErrType}},
	{"the other end's failure", func(t *testing.T, b *both) {
		b.feed(t, string(specimens.Bytes(away(2))))
	}, api.ErrPeer},
	{"the other end's complaint", func(t *testing.T, b *both) {
		b.feed(t, string(specimens.Bytes(away(1))))
	}, api.ErrPeer},
	{"a cut", func(t *testing.T, b *both) { b.cut(t) }, api.ErrCut},
}

func TestP18_2_OpenGivesRisingNumbers(t *testing.T) {
	cfg := changed(func(cfg *api.Config) { cfg.Streams, cfg.Backlog = 5, 5 })
	for _, c := range []struct {
		client bool
		skip   int
		ids    []uint32
	}{
		{true, 0, []uint32{1, 3, 5}},
		{false, 0, []uint32{2, 4, 6}},
		{true, 2, []uint32{5, 7, 9}},
		{false, 1000, []uint32{2002, 2004, 2006}},
		{true, 1<<31 - 3, []uint32{1<<32 - 5, 1<<32 - 3, 1<<32 - 1}},
		{false, 1<<31 - 4, []uint32{1<<32 - 6, 1<<32 - 4, 1<<32 - 2}},
	} {
		cfg.Skip = c.skip
		b := made(t, cfg, c.client)
		var tickets []api.Ticket
		for _, id := range c.ids {
			left := b.s.Left()
			opens(t, id)(b.open(t))
			if b.s.Left() != left-1 {
				t.Fatalf("Left: %d behind %d", b.s.Left(), left)
			}
			b.sees(t, id, api.StreamView{ID: id, State: api.SynSent, Mine: true, Credit: 4, Left: 4}, true)
			tickets = append(tickets, synTicket(id))
		}
		b.tickets(t, tickets...)
		b.list(t, "Streams", b.s.Streams(), c.ids)
	}
}

// One that fails takes no number; which error comes first is the chapter's order.
func TestP18_2_OpenFailsInTheChaptersOrder(t *testing.T) {
	noneLeft := func(cfg *api.Config) { cfg.Skip = 1<<31 - 1 }
	b := made(t, changed(noneLeft), false)
	refuses(t, api.ErrExhausted)(b.open(t))
	refuses(t, api.ErrExhausted)(b.open(t))

	b = made(t, changed(func(cfg *api.Config) { noneLeft(cfg); cfg.Streams = 1 }), true)
	opens(t, math.MaxUint32)(b.open(t))
	refuses(t, api.ErrLimit)(b.open(t)) // ahead of ErrExhausted
	b.steps(t, 1)
	b.fed(t, away(0))
	refuses(t, api.ErrAway)(b.open(t)) // ahead of both
	b.cut(t)
	refuses(t, api.ErrCut)(b.open(t)) // ahead of all

	for _, end := range ends {
		b := client(t)
		b.fed(t, away(0))
		refuses(t, api.ErrAway)(b.open(t))
		end.by(t, b)
		refuses(t, end.why)(b.open(t))
		if b.s.Left() != 1<<31 {
			t.Fatalf("%s: Left: %d", end.name, b.s.Left())
		}
	}
}

func TestF9_OpenCountsTheStreamsThatAreMineAndTheirRSTTickets(t *testing.T) {
	b := made(t, changed(func(cfg *api.Config) { cfg.Streams, cfg.Backlog, cfg.Out = 2, 5, 1000 }), true)
	b.fed(t, syn(2), syn(4)) // theirs don't count
	b.accept(t)
	b.accept(t)
	opens(t, 1)(b.open(t))
	opens(t, 3)(b.open(t))
	refuses(t, api.ErrLimit)(b.open(t))
	b.steps(t, 4)
	refuses(t, api.ErrLimit)(b.open(t))
	b.fed(t, ack(1))
	b.reset(t, 1)
	b.reset(t, 2) // one of theirs: its RST ticket counts nothing here
	b.tickets(t, rstTicket(1), rstTicket(2))
	refuses(t, api.ErrLimit)(b.open(t))
	b.steps(t, 2)
	opens(t, 5)(b.open(t))
	refuses(t, api.ErrLimit)(b.open(t))
	b.reset(t, 5) // its SYN is withdrawn: nothing waits
	opens(t, 7)(b.open(t))
	b.fed(t, rst(3)) // it stays in the table till that is told
	refuses(t, api.ErrLimit)(b.open(t))
	b.reads(t, 3, "", api.ErrReset)
	opens(t, 9)(b.open(t))
}

// An RST ticket that goes because the other end's RST comes gives room as one that is laid out does.
func TestF2_AnRSTThatComesTakesOutTheRSTTicketAndWhatItCounts(t *testing.T) {
	b := made(t, changed(func(cfg *api.Config) { cfg.Streams = 1 }), true)
	b.fed(t, syn(2), syn(4))
	b.accept(t)
	opens(t, 1)(b.open(t))
	b.steps(t, 2)
	b.reset(t, 1)
	b.reset(t, 2)
	b.tickets(t, rstTicket(1), rstTicket(2))
	refuses(t, api.ErrLimit)(b.open(t))
	refuses(t, api.ErrLimit)(b.accept(t))
	b.fed(t, rst(1))
	b.tickets(t, rstTicket(2))
	refuses(t, api.ErrLimit)(b.accept(t))
	opens(t, 3)(b.open(t))
	b.fed(t, specimens.Bare(api.TypeData, api.FlagRST, 2, 0))
	b.tickets(t, synTicket(3))
	opens(t, 4)(b.accept(t))
	b.lays(t, 2, "00 01 00 01 00 00 00 03 00 00 00 00"+"00 01 00 02 00 00 00 04 00 00 00 00")
}

func TestF9_OpenCountsThoseThatAreNotAccepted(t *testing.T) {
	b := made(t, changed(func(cfg *api.Config) { cfg.Streams, cfg.Backlog, cfg.Out = 9, 2, 1000 }), false)
	opens(t, 2)(b.open(t))
	opens(t, 4)(b.open(t))
	refuses(t, api.ErrLimit)(b.open(t))
	b.steps(t, 2)
	refuses(t, api.ErrLimit)(b.open(t))
	b.fed(t, data(2, "abc"), window(0, 2, 0)) // no ACK: it isn't accepted by that
	refuses(t, api.ErrLimit)(b.open(t))
	b.fed(t, ack(4), ack(4)) // the second is passed over
	opens(t, 6)(b.open(t))
	refuses(t, api.ErrLimit)(b.open(t))
	b.fed(t, specimens.Data(api.FlagACK|api.FlagFIN, 2, "d"))
	opens(t, 8)(b.open(t))
	refuses(t, api.ErrLimit)(b.open(t))
	b.reset(t, 8)
	opens(t, 10)(b.open(t))
	b.steps(t, 2)
	b.fed(t, rst(6)) // reset, but in the table and not accepted
	refuses(t, api.ErrLimit)(b.open(t))
	b.fed(t, ack(6)) // passed over: behind an RST nothing counts
	refuses(t, api.ErrLimit)(b.open(t))
	b.reads(t, 6, "", api.ErrReset)
	opens(t, 12)(b.open(t))
}

func TestP18_3_AcceptTakesThemInTheirOrder(t *testing.T) {
	b := made(t, changed(func(cfg *api.Config) { cfg.Streams, cfg.Backlog = 3, 4 }), false)
	refuses(t, api.ErrEmpty)(b.accept(t))
	b.fed(t, syn(7), specimens.Data(api.FlagSYN|api.FlagFIN, 11, "abc"), syn(13), window(api.FlagSYN|api.FlagFIN, 101, 0))
	b.list(t, "Waiting", b.s.Waiting(), []uint32{7, 11, 13, 101})
	b.sees(t, 11, api.StreamView{ID: 11, State: api.RemoteClosed, Credit: 4, Unread: 3}, true)
	b.sees(t, 13, api.StreamView{ID: 13, State: api.SynRecv, Credit: 4, Left: 4}, true)
	opens(t, 7)(b.accept(t))
	opens(t, 11)(b.accept(t))
	opens(t, 13)(b.accept(t))
	b.sees(t, 7, api.StreamView{ID: 7, State: api.Established, Accepted: true, Credit: 4, Left: 4}, true)
	b.sees(t, 11, api.StreamView{ID: 11, State: api.RemoteClosed, Accepted: true, Credit: 4, Unread: 3}, true)
	b.tickets(t, ackTicket(7), ackTicket(11), ackTicket(13))
	refuses(t, api.ErrLimit)(b.accept(t))
	b.list(t, "Waiting", b.s.Waiting(), []uint32{101})
	b.open(t) // mine don't count
	b.reset(t, 7)
	refuses(t, api.ErrLimit)(b.accept(t)) // its RST ticket waits
	b.steps(t, 5)
	opens(t, 101)(b.accept(t))
	refuses(t, api.ErrEmpty)(b.accept(t))
	b.list(t, "Streams", b.s.Streams(), []uint32{2, 11, 13, 101})
}

// The refused count for ErrFlood, not for Accept.
func TestP18_3_AcceptDoesNotCountTheRefused(t *testing.T) {
	b := made(t, changed(func(cfg *api.Config) { cfg.Streams, cfg.Backlog = 1, 3 }), false)
	b.fed(t, syn(1))
	b.goAway(t)
	b.fed(t, syn(3), syn(5))
	b.tickets(t, awayTicket(0), rstTicket(3), rstTicket(5))
	opens(t, 1)(b.accept(t))
	b.reset(t, 1)
	b.tickets(t, awayTicket(0), rstTicket(3), rstTicket(5), ackTicket(1), rstTicket(1))
}

func TestP18_3_AcceptBehindTheEnd(t *testing.T) {
	for _, end := range ends {
		for _, waits := range []bool{false, true} {
			b := server(t)
			if waits {
				b.fed(t, syn(1))
			}
			end.by(t, b)
			refuses(t, end.why)(b.accept(t))
		}
	}
}

func TestP18_4_Ping(t *testing.T) {
	b := made(t, changed(func(cfg *api.Config) { cfg.Pings = 2 }), false)
	opens(t, 1)(b.ping(t))
	opens(t, 2)(b.ping(t))
	refuses(t, api.ErrLimit)(b.ping(t))
	b.tickets(t, pingTicket(1), pingTicket(2))
	b.lays(t, 2, "00 02 00 01 00 00 00 00 00 00 00 01"+"00 02 00 01 00 00 00 00 00 00 00 02")
	refuses(t, api.ErrLimit)(b.ping(t))
	b.fed(t, answers(2))
	b.list(t, "Pinged", b.s.Pinged(), []uint32{1})
	opens(t, 3)(b.ping(t))
	b.fed(t, answers(1))
	b.list(t, "Pongs", b.s.Pongs(), []uint32{2, 1})
	b.p.pongs()
	b.list(t, "Pongs", b.s.Pongs(), nil)
	b.list(t, "Pinged", b.s.Pinged(), []uint32{3})
	for _, end := range ends {
		b := client(t)
		opens(t, 1)(b.ping(t))
		b.steps(t, 1)
		b.fed(t, answers(1))
		opens(t, 2)(b.ping(t))
		end.by(t, b)
		refuses(t, end.why)(b.ping(t))
		b.list(t, "Pongs", b.s.Pongs(), nil) // none when it is over
		b.list(t, "Pinged", b.s.Pinged(), nil)
	}
}

func TestP18_4_GoAwayIsToldOnce(t *testing.T) {
	b := client(t)
	for range 3 {
		fails(t, "GoAway", b.goAway(t), nil)
		b.tickets(t, awayTicket(0))
	}
	b.lays(t, 1, "00 03 00 00 00 00 00 00 00 00 00 00")
	fails(t, "GoAway", b.goAway(t), nil)
	b.lays(t, 0, "")
	if here, there := b.s.Away(); !here || there {
		t.Errorf("Away: %v, %v", here, there)
	}
	opens(t, 1)(b.open(t)) // it takes no more of theirs; its own go on
	for _, end := range ends {
		for _, gone := range []bool{false, true} {
			b := client(t)
			if gone {
				b.goAway(t)
			}
			end.by(t, b)
			fails(t, "GoAway", b.goAway(t), end.why)
			if here, _ := b.s.Away(); here != gone {
				t.Fatalf("%s: Away: %v", end.name, here)
			}
		}
	}
}

// fourCalls: those that name a stream.
var fourCalls = []struct {
	name string
	do   func(t *testing.T, b *both, id uint32) error
}{
	{"Write", func(t *testing.T, b *both, id uint32) error { _, err := b.write(t, id, "a"); return err }},
	{"Write of nothing", func(t *testing.T, b *both, id uint32) error { _, err := b.write(t, id, ""); return err }},
	{"Read", func(t *testing.T, b *both, id uint32) error { _, err := b.read(t, id, 1); return err }},
	{"Read of nothing", func(t *testing.T, b *both, id uint32) error { _, err := b.read(t, id, 0); return err }},
	{"Close", func(t *testing.T, b *both, id uint32) error { return b.close(t, id) }},
	{"Reset", func(t *testing.T, b *both, id uint32) error { return b.reset(t, id) }},
}

func TestP18_5_OnlyStreamsOfTheTableAreMeant(t *testing.T) {
	for _, call := range fourCalls {
		b := made(t, changed(func(cfg *api.Config) { cfg.Skip = 3 }), true)
		b.fed(t, syn(6), data(6, "abc"))
		opens(t, 7)(b.open(t))
		for _, id := range []uint32{0, 1, 2, 3, 4, 5, 6, 8, 9, math.MaxUint32} {
			fails(t, call.name, call.do(t, b, id), api.ErrNoStream)
		}
		if _, err := b.read(t, 6, -1); err != api.ErrNoStream { // ahead of ErrRange
			t.Errorf("Read: %v", err)
		}
		b.cut(t) // one that waits goes by a cut; behind it the table is asked as before
		for _, id := range []uint32{0, 1, 6, 9} {
			fails(t, call.name, call.do(t, b, id), api.ErrNoStream)
		}
	}
}

func TestP18_5_BehindAViolationOrAFailureThatIsAllThatIsTold(t *testing.T) {
	for _, end := range ends {
		if end.why == api.ErrCut {
			continue
		}
		for _, call := range fourCalls {
			b := client(t)
			opens(t, 1)(b.open(t))
			opens(t, 3)(b.open(t))
			b.steps(t, 2)
			b.fed(t, last(1, "abc"), rst(3))
			end.by(t, b)
			for _, id := range []uint32{0, 1, 2, 3, 5} {
				for range 2 {
					fails(t, call.name, call.do(t, b, id), end.why)
				}
			}
			if _, err := b.read(t, 1, -1); err == api.ErrRange {
				t.Errorf("Read: %v", err)
			}
		}
	}
}

func TestP18_5_AStreamThatTheOtherEndHasResetIsToldOnce(t *testing.T) {
	for _, call := range fourCalls {
		for _, cut := range []bool{false, true} {
			b := client(t)
			opens(t, 1)(b.open(t))
			b.steps(t, 1)
			b.write(t, 1, "abc")
			b.fed(t, data(1, "de"), rst(1))
			b.sees(t, 1, api.StreamView{ID: 1, State: api.Reset, Mine: true}, true)
			b.lays(t, 0, "")
			if cut {
				b.cut(t)
			}
			for range 2 {
				if _, err := b.read(t, 1, -1); err != api.ErrRange { // ahead of ErrReset, and it tells nothing
					t.Fatalf("Read: %v", err)
				}
			}
			fails(t, call.name, call.do(t, b, 1), api.ErrReset)
			fails(t, call.name, call.do(t, b, 1), api.ErrNoStream)
			b.tickets(t)
		}
	}
}

func TestP18_5_WriteTakesWhatThereIsRoomFor(t *testing.T) {
	b := client(t)
	opens(t, 1)(b.open(t))
	for _, c := range []struct {
		text string
		n    int
	}{{"", 0}, {"abc", 3}, {"defg", 4}, {"hij", 1}, {"k", 0}, {"", 0}} {
		if n, err := b.write(t, 1, c.text); n != c.n || err != nil {
			t.Fatalf("Write(%q): %d, %v", c.text, n, err)
		}
	}
	b.lays(t, 3, "00 01 00 01 00 00 00 01 00 00 00 00"+
		"00 00 00 00 00 00 00 01 00 00 00 03 61 62 63"+"00 00 00 00 00 00 00 01 00 00 00 01 64")
	if n, _ := b.write(t, 1, "klmnop"); n != 4 {
		t.Fatalf("Write: %d", n)
	}
	b.fed(t, window(0, 1, 4))
	b.lays(t, 2, "00 00 00 00 00 00 00 01 00 00 00 03 65 66 67"+"00 00 00 00 00 00 00 01 00 00 00 01 68")
	b.fed(t, window(0, 1, 4))
	b.close(t, 1)
	for _, text := range []string{"", "q"} {
		if n, err := b.write(t, 1, text); n != 0 || err != api.ErrClosed {
			t.Fatalf("Write behind Close: %d, %v", n, err)
		}
	}
	b.lays(t, 2, "00 00 00 00 00 00 00 01 00 00 00 03 6b 6c 6d"+"00 00 00 04 00 00 00 01 00 00 00 01 6e")
	if n, err := b.write(t, 1, "q"); n != 0 || err != api.ErrClosed {
		t.Fatalf("Write behind the last frame: %d, %v", n, err)
	}
	b.cut(t)
	if n, err := b.write(t, 1, "q"); n != 0 || err != api.ErrCut { // ahead of ErrClosed
		t.Fatalf("Write behind the cut: %d, %v", n, err)
	}
}

func TestP18_5_ReadGivesWhatCame(t *testing.T) {
	b := server(t)
	b.fed(t, syn(1), data(1, "abc"))
	opens(t, 1)(b.accept(t))
	b.steps(t, 1)
	for _, c := range []struct {
		n    int
		gave string
		why  error
	}{
		{-1, "", api.ErrRange}, {math.MinInt, "", api.ErrRange}, {0, "", nil}, {1, "a", nil}, {math.MaxInt, "bc", nil},
		{1, "", nil}, {0, "", nil}, {-1, "", api.ErrRange}, {math.MaxInt, "", nil},
	} {
		if got, err := b.read(t, 1, c.n); got != c.gave || err != c.why {
			t.Fatalf("Read(1, %d): %q, %v", c.n, got, err)
		}
	}
	b.tickets(t, grantTicket(1, 3))
	b.fed(t, last(1, "de"))
	b.tickets(t) // FIN withdraws the grant
	for _, c := range []struct {
		n    int
		gave string
		why  error
	}{{1, "d", nil}, {0, "", nil}, {1, "e", nil}, {0, "", nil}, {-1, "", api.ErrRange}, {1, "", api.ErrEOF}, {0, "", nil}, {9, "", api.ErrEOF}} {
		if got, err := b.read(t, 1, c.n); got != c.gave || err != c.why {
			t.Fatalf("Read(1, %d) behind FIN: %q, %v", c.n, got, err)
		}
	}
	b.tickets(t) // nothing is granted behind the last frame
	b.sees(t, 1, api.StreamView{ID: 1, State: api.RemoteClosed, Accepted: true, Credit: 4, Ended: true}, true)
}

// F8: quiet and told, whichever is later.
func TestF8_AStreamLeavesWhenItIsQuietAndTold(t *testing.T) {
	steps := map[string]func(t *testing.T, b *both){
		"close": func(t *testing.T, b *both) { b.close(t, 1); b.steps(t, 1) },
		"fin":   func(t *testing.T, b *both) { b.fed(t, last(1, "")) },
		"told":  func(t *testing.T, b *both) { b.reads(t, 1, "", api.ErrEOF) },
	}
	for _, order := range []string{"close fin told", "fin close told", "fin told close"} {
		b := client(t)
		opens(t, 1)(b.open(t))
		b.steps(t, 1)
		for i, step := range strings.Fields(order) {
			b.list(t, "Streams", b.s.Streams(), []uint32{1})
			steps[step](t, b)
			if i == 2 {
				b.list(t, "Streams", b.s.Streams(), nil)
			}
		}
		b.fed(t, data(1, "abc"), last(1, "d"), window(0, 1, 99), ack(1), rst(1)) // it is gone: passed over
		b.sees(t, 1, api.StreamView{}, false)
		b.lays(t, 0, "")
	}
}

func TestP18_5_CloseIsTakenOnce(t *testing.T) {
	b := client(t)
	opens(t, 1)(b.open(t))
	fails(t, "Close", b.close(t, 1), nil)
	fails(t, "Close", b.close(t, 1), api.ErrClosed)
	b.lays(t, 2, "00 01 00 01 00 00 00 01 00 00 00 00"+"00 00 00 04 00 00 00 01 00 00 00 00")
	fails(t, "Close", b.close(t, 1), api.ErrClosed)
	b.fed(t, window(0, 1, math.MaxUint32)) // behind this end's last frame a delta is passed over
	b.cut(t)
	fails(t, "Close", b.close(t, 1), api.ErrCut)
	fails(t, "Reset", b.reset(t, 1), api.ErrCut)
	b.reads(t, 1, "", api.ErrCut)
}

func TestP18_5_ResetOfEachKindOfStream(t *testing.T) {
	for _, c := range []struct {
		name string
		by   func(t *testing.T, b *both)
		want []api.Ticket
	}{
		{"theirs, its ACK waits", func(t *testing.T, b *both) {
			b.fed(t, syn(1), data(1, "abc"))
			b.accept(t)
			b.read(t, 1, 2)
			b.write(t, 1, "xyz")
		}, []api.Ticket{ackTicket(1), rstTicket(1)}},
		{"theirs, its ACK was laid out", func(t *testing.T, b *both) {
			b.fed(t, syn(1), data(1, "abc"))
			b.accept(t)
			b.steps(t, 1)
			b.read(t, 1, 2)
		}, []api.Ticket{rstTicket(1)}},
		{"the other end's last frame came", func(t *testing.T, b *both) {
			b.fed(t, syn(1), last(1, "abc"))
			b.accept(t)
			b.steps(t, 1)
			b.read(t, 1, 9)
			b.reads(t, 1, "", api.ErrEOF)
		}, []api.Ticket{rstTicket(1)}},
		{"this end's last frame was laid out", func(t *testing.T, b *both) {
			b.fed(t, syn(1))
			b.accept(t)
			b.close(t, 1)
			b.steps(t, 2)
		}, []api.Ticket{rstTicket(1)}},
		{"quiet, and its end wasn't told", func(t *testing.T, b *both) {
			b.fed(t, syn(1), last(1, "abc"))
			b.accept(t)
			b.close(t, 1)
			b.steps(t, 2)
		}, nil},
		{"other tickets stay", func(t *testing.T, b *both) {
			b.fed(t, syn(1), syn(3), data(1, "abc"), data(3, "abc"), asks(9))
			b.accept(t)
			b.accept(t)
			b.read(t, 1, 3)
			b.read(t, 3, 3)
			b.ping(t)
		}, []api.Ticket{pongTicket(9), ackTicket(1), ackTicket(3), grantTicket(3, 3), pingTicket(1), rstTicket(1)}},
	} {
		b := server(t)
		c.by(t, b)
		fails(t, c.name, b.reset(t, 1), nil)
		b.tickets(t, c.want...)
		fails(t, c.name, b.reset(t, 1), api.ErrNoStream)
		b.steps(t, len(c.want)) // no Data of it is left
	}
}

func TestP18_5_ResetOfOneThatIsMine(t *testing.T) {
	b := made(t, changed(func(cfg *api.Config) { cfg.Streams, cfg.Backlog = 3, 3 }), true)
	opens(t, 1)(b.open(t))
	opens(t, 3)(b.open(t))
	opens(t, 5)(b.open(t))
	b.write(t, 3, "abc")
	b.write(t, 5, "x")
	b.reset(t, 3)
	b.tickets(t, synTicket(1), synTicket(5))
	b.lays(t, 3, "00 01 00 01 00 00 00 01 00 00 00 00"+"00 01 00 01 00 00 00 05 00 00 00 00"+
		"00 00 00 00 00 00 00 05 00 00 00 01 78")
	b.fed(t, data(3, "abc"), rst(3)) // at or below the mark and never used: it is gone
	b.reset(t, 1)
	b.tickets(t, rstTicket(1))
	b.fed(t, data(1, "abc"))
	b.tickets(t, rstTicket(1))
	opens(t, 7)(b.open(t))
	b.reset(t, 5)
	b.lays(t, 3, "00 01 00 08 00 00 00 01 00 00 00 00"+"00 01 00 01 00 00 00 07 00 00 00 00"+
		"00 01 00 08 00 00 00 05 00 00 00 00")
}

func TestP18_6_PongsAreToldOnceInTheOrderOfTheAnswers(t *testing.T) {
	b := made(t, changed(func(cfg *api.Config) { cfg.Pings = 3 }), true)
	for range 3 {
		b.ping(t)
	}
	b.steps(t, 3)
	b.fed(t, answers(2), answers(3))
	b.list(t, "Pongs", b.pongs(t), []uint32{2, 3})
	b.fed(t, answers(1))
	b.ping(t)
	b.steps(t, 1)
	b.fed(t, answers(4))
	b.list(t, "Pongs", b.pongs(t), []uint32{1, 4})
	b.list(t, "Pongs", b.pongs(t), nil)
}
