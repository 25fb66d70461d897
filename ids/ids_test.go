package ids_test

import (
	"math"
	"testing"

	"culvert/api"
	"culvert/ids"
	"culvert/sentinels"
)

// nexts: the next numbers must be these, by the chapter's words and not by the plain one's alone.
func (b *both) nexts(t *testing.T, want ...uint32) {
	t.Helper()
	for _, id := range want {
		if got, err := b.next(t); got != id || err != nil {
			t.Fatalf("Next: %d, %v, want %d", got, err, id)
		}
		b.tells(t)
	}
}

// exhausted: no number is left, however often one is asked for.
func (b *both) exhausted(t *testing.T) {
	t.Helper()
	for range 3 {
		if id, err := b.x.Next(); id != 0 || !sentinels.Just(err, api.ErrExhausted) {
			t.Fatalf("Next behind the last: %d, %v", id, err)
		}
		if n := b.x.Left(); n != 0 {
			t.Fatalf("Left behind the last: %d", n)
		}
	}
	b.tells(t)
}

// marks: both must be these, by the chapter's words and not by the plain one's alone.
func (b *both) marks(t *testing.T, mine, theirs uint32) {
	t.Helper()
	if gotMine, gotTheirs := b.x.Marks(); gotMine != mine || gotTheirs != theirs {
		t.Fatalf("Marks: %d, %d, want %d, %d", gotMine, gotTheirs, mine, theirs)
	}
	b.tells(t)
}

// The chapter's first example, in its order.
func TestP14_1_TheFirstExample(t *testing.T) {
	b := made(t, true, 0)
	b.nexts(t, 1, 3, 5)
	is(t, "Sent(3)", b.send(t, 3), nil)
	if !b.x.Known(1) || !b.x.Known(3) || b.x.Known(5) {
		t.Error("Known of 1, 3 and 5")
	}
	is(t, "Sent(1)", b.send(t, 1), api.ErrReused)
	is(t, "Sent(7)", b.send(t, 7), api.ErrMissing)
	is(t, "Sent(2)", b.send(t, 2), api.ErrParity)
	is(t, "Hear(4)", b.hear(t, 4), nil)
	if !b.x.Known(2) {
		t.Error("Known of 2")
	}
	is(t, "Hear(4)", b.hear(t, 4), api.ErrReused)
	is(t, "Hear(2)", b.hear(t, 2), api.ErrReused)
	is(t, "Hear(3)", b.hear(t, 3), api.ErrParity)
	is(t, "Hear(0)", b.hear(t, 0), api.ErrID)
	b.marks(t, 3, 4)
	if n := b.x.Left(); n != 2147483645 {
		t.Errorf("Left: %d", n)
	}
}

// The chapter's second example: the last numbers of both ends.
func TestP14_1_TheSecondExample(t *testing.T) {
	b := made(t, true, 2147483647)
	if n := b.x.Left(); n != 1 {
		t.Errorf("Left: %d", n)
	}
	b.nexts(t, 4294967295)
	b.exhausted(t)
	made(t, false, 2147483647).exhausted(t)
	b = made(t, false, 2147483646)
	b.nexts(t, 4294967294)
	b.exhausted(t)
}

func TestP14_1_New(t *testing.T) {
	eachEnd(func(client bool, skip int) {
		b := made(t, client, skip)
		b.tells(t)
		b.marks(t, 0, 0)
		for _, id := range b.edges() {
			if b.x.Known(id) {
				t.Errorf("a new one knows %d", id)
			}
		}
	})
}

func TestP14_1_NewRefuses(t *testing.T) {
	for _, client := range []bool{true, false} {
		for _, skip := range []int{
			-1, -2, -most, -1 << 31, -1<<31 - 1, -1 << 32, 1 - 1<<32, 1 - 1<<63, math.MinInt + 1, math.MinInt,
			most + 1, most + 2, 1<<32 - 1, 1 << 32, 1<<32 + 1, 1<<40 + 4, 1 << 62, math.MaxInt - 1, math.MaxInt,
		} {
			if x, err := ids.New(client, skip); x != nil || !sentinels.Just(err, api.ErrRange) {
				t.Errorf("New(%v, %d): %v, %v", client, skip, x, err)
			}
		}
	}
}

// Whose a number is hangs on its parity alone, not on what was passed over, given out, sent or heard.
func TestP14_1_Mine(t *testing.T) {
	eachEnd(func(client bool, skip int) {
		b := made(t, client, skip)
		for range 3 {
			for k := range uint32(1 << 10) {
				for _, id := range []uint32{k, 1<<16 - k, 1<<31 + k, 1<<31 - k, math.MaxUint32 - k} {
					if got := b.x.Mine(id); got != (id != 0 && (id%2 == 1) == client) {
						t.Fatalf("Mine(%d) at %v: %v", id, b.p, got)
					}
				}
			}
			if id, err := b.next(t); err == nil {
				b.send(t, id)
			}
			b.hear(t, math.MaxUint32)
			b.hear(t, math.MaxUint32-1)
		}
	})
}

// F1: each end has the numbers of its parity, and passes over the first Skip of them.
func TestF1_TheFirstNumbersOfBothEnds(t *testing.T) {
	made(t, true, 0).nexts(t, 1, 3, 5, 7, 9)
	made(t, false, 0).nexts(t, 2, 4, 6, 8, 10)
	made(t, true, 1).nexts(t, 3, 5, 7)
	made(t, false, 1).nexts(t, 4, 6, 8)
	made(t, true, 5).nexts(t, 11, 13, 15)
	made(t, false, 5).nexts(t, 12, 14, 16)
	made(t, true, 1<<30).nexts(t, 1<<31+1, 1<<31+3)
	made(t, false, 1<<30).nexts(t, 1<<31+2, 1<<31+4)
}

// F1: a number whose stream never comes about is not given out again; the others go on behind it.
func TestF1_ANumberThatIsNotSentIsNeverUsed(t *testing.T) {
	b := made(t, true, 0)
	b.nexts(t, 1, 3, 5)
	is(t, "Sent(3)", b.send(t, 3), nil) // 1 was withdrawn
	is(t, "Sent(1)", b.send(t, 1), api.ErrReused)
	b.nexts(t, 7)
	is(t, "Sent(7)", b.send(t, 7), nil) // and 5
	is(t, "Sent(5)", b.send(t, 5), api.ErrReused)
	b.nexts(t, 9, 11)
	b.marks(t, 7, 0)
}

func TestP14_2_NumbersRiseByTwo(t *testing.T) {
	eachEnd(func(client bool, skip int) {
		b := made(t, client, skip)
		all := 1<<31 - 1
		if client {
			all = 1 << 31
		}
		if got := b.x.Left(); got != all-skip {
			t.Fatalf("Left of New(%v, %d): %d, want %d", client, skip, got, all-skip)
		}
		before := uint32(0)
		for n := range min(all-skip, 1000) {
			id, err := b.x.Next()
			switch {
			case err != nil:
				t.Fatalf("Next number %d of New(%v, %d): %v", n, client, skip, err)
			case n > 0 && id-2 != before || id <= before:
				t.Fatalf("Next behind %d: %d", before, id)
			case (id%2 == 1) != client || !b.x.Mine(id):
				t.Fatalf("Next of New(%v, %d): %d", client, skip, id)
			case b.x.Left() != all-skip-n-1:
				t.Fatalf("Left behind number %d of New(%v, %d): %d", n, client, skip, b.x.Left())
			}
			before = id
		}
	})
}

// Each end's last numbers, whatever is passed over ahead of them.
func TestP14_2_NoNumberBehindTheLast(t *testing.T) {
	for left := range 6 {
		client, server := made(t, true, most+1-max(left, 1)), made(t, false, most-left)
		for n := max(left, 1); n > 0; n-- {
			client.nexts(t, uint32(1<<32+1-2*n))
		}
		for n := left; n > 0; n-- {
			server.nexts(t, uint32(1<<32-2*n))
		}
		client.exhausted(t)
		server.exhausted(t)
	}
}

// What is sent, heard or asked gives no number out, and takes none back.
func TestP14_2_OnlyNextGivesNumbersOut(t *testing.T) {
	eachEnd(func(client bool, skip int) {
		b := given(t, client, skip, 3)
		want := b.x.Left()
		for _, id := range b.edges() {
			b.send(t, id)
			b.hear(t, id)
			if got := b.x.Left(); got != want {
				t.Fatalf("Left behind Sent(%d) and Hear(%d): %d, want %d", id, id, got, want)
			}
		}
		b.next(t)
		b.tells(t)
	})
}

// Sent is refused for the first of its reasons that holds.
func TestP14_1_SentAtEachNumber(t *testing.T) {
	eachEnd(func(client bool, skip int) {
		for many := range 5 {
			for sent := range many + 1 {
				for off := -4; off < 2*many+4; off++ {
					b := given(t, client, skip, many)
					if sent > 0 {
						b.send(t, uint32(b.p.number(b.p.skip+sent-1)))
					}
					b.send(t, uint32(b.p.number(b.p.skip)+off))
					b.tells(t)
				}
			}
		}
	})
}

// A number that was passed over was never given out, however far the mark has risen.
func TestP14_1_SentOfWhatWasPassedOver(t *testing.T) {
	for _, client := range []bool{true, false} {
		b := given(t, client, 3, 2)
		for _, sent := range []int{-1, 3, 4} {
			if sent >= 0 {
				is(t, "Sent", b.send(t, uint32(b.p.number(sent))), nil)
			}
			for count := range 3 {
				is(t, "Sent of what was passed over", b.send(t, uint32(b.p.number(count))), api.ErrMissing)
			}
			is(t, "Sent of what wasn't given out", b.send(t, uint32(b.p.number(5))), api.ErrMissing)
		}
		is(t, "Sent of what was sent", b.send(t, uint32(b.p.number(4))), api.ErrReused)
		is(t, "Sent of what is below the mark", b.send(t, uint32(b.p.number(3))), api.ErrReused)
		b.tells(t)
	}
}

func TestP14_1_SentOfAForeignNumber(t *testing.T) {
	client, server := given(t, true, 0, 3), given(t, false, 0, 3)
	for _, id := range []uint32{0, 2, 4, 6, 8, 1 << 31, math.MaxUint32 - 1} {
		is(t, "the client's Sent", client.send(t, id), api.ErrParity)
	}
	for _, id := range []uint32{0, 1, 3, 5, 7, 1<<31 - 1, math.MaxUint32} {
		is(t, "the server's Sent", server.send(t, id), api.ErrParity)
	}
	client.marks(t, 0, 0)
	server.marks(t, 0, 0)
	is(t, "the client's Sent(1)", client.send(t, 1), nil)
	is(t, "the server's Sent(2)", server.send(t, 2), nil)
}

// An end that has given out its last number: the one behind it would be above 32 bits.
func TestP14_1_SentOfTheLastNumber(t *testing.T) {
	for _, client := range []bool{true, false} {
		b := given(t, client, most-3, 9)
		last := uint32(math.MaxUint32)
		if !client {
			last--
		}
		b.exhausted(t)
		is(t, "Sent of the first number", b.send(t, uint32(b.p.number(0))), api.ErrMissing)
		is(t, "Sent of the last number", b.send(t, last), nil)
		is(t, "Sent of the last number again", b.send(t, last), api.ErrReused)
		is(t, "Sent of the last but one", b.send(t, last-2), api.ErrReused)
		is(t, "Sent of 0", b.send(t, 0), api.ErrParity)
		b.marks(t, last, 0)
		b.exhausted(t)
	}
}

// The other end may open any number of its parity that is above its mark: what it passes over is its own business.
func TestP14_1_HearAtEachNumber(t *testing.T) {
	eachEnd(func(client bool, skip int) {
		for _, first := range anywhere {
			for _, second := range anywhere {
				b := given(t, client, skip, 2)
				b.hear(t, first)
				b.tells(t, first, second)
				b.hear(t, second)
				b.tells(t, first, second)
			}
		}
	})
}

func TestP14_1_HearOfTheLastNumber(t *testing.T) {
	client, server := made(t, true, 0), made(t, false, 0)
	is(t, "the client's Hear", client.hear(t, math.MaxUint32-1), nil)
	is(t, "the server's Hear", server.hear(t, math.MaxUint32), nil)
	for _, id := range []uint32{2, 4, 1 << 31, math.MaxUint32 - 1} {
		is(t, "the client's Hear", client.hear(t, id), api.ErrReused)
	}
	for _, id := range []uint32{1, 3, 1<<31 + 1, math.MaxUint32} {
		is(t, "the server's Hear", server.hear(t, id), api.ErrReused)
	}
	is(t, "the client's Hear(0)", client.hear(t, 0), api.ErrID)
	is(t, "the server's Hear(0)", server.hear(t, 0), api.ErrID)
	client.marks(t, 0, math.MaxUint32-1)
	server.marks(t, 0, math.MaxUint32)
}

// F2: a number at or below its opener's mark is known, whether it was used or not; 0 and those above never are.
func TestP14_1_KnownIsWhatIsNotAboveItsOpenersMark(t *testing.T) {
	client := given(t, true, 4, 6) // 9, 11, .. 19
	is(t, "Sent(15)", client.send(t, 15), nil)
	is(t, "Hear(24)", client.hear(t, 24), nil)
	for id := range uint32(100) {
		want := id%2 == 1 && id <= 15 || id%2 == 0 && id != 0 && id <= 24
		if got := client.x.Known(id); got != want {
			t.Errorf("the client's Known(%d): %v", id, got)
		}
	}
	server := given(t, false, 4, 6) // 10, 12, .. 20
	is(t, "Sent(12)", server.send(t, 12), nil)
	is(t, "Hear(7)", server.hear(t, 7), nil)
	for id := range uint32(100) {
		want := id%2 == 0 && id != 0 && id <= 12 || id%2 == 1 && id <= 7
		if got := server.x.Known(id); got != want {
			t.Errorf("the server's Known(%d): %v", id, got)
		}
	}
}

// To give a number out is not to send it: no frame may name it yet.
func TestP14_1_WhatWasOnlyGivenOutIsNotKnown(t *testing.T) {
	eachEnd(func(client bool, skip int) {
		b := given(t, client, skip, 4)
		for count := range 4 {
			if id := uint32(b.p.number(skip + count)); b.x.Known(id) {
				t.Errorf("Known(%d) at %v", id, b.p)
			}
		}
		b.marks(t, 0, 0)
	})
}

// Neither mark moves the other.
func TestP14_1_TheMarksStandByThemselves(t *testing.T) {
	for _, client := range []bool{true, false} {
		b := given(t, client, 0, 50)
		var mine, theirs uint32
		for k := 0; k < 50; k += 5 {
			own := uint32(b.p.number(k))
			is(t, "Sent", b.send(t, own), nil)
			mine = own
			b.marks(t, mine, theirs)
			other := 2*own + 1 // of the other parity, if this end's numbers are even
			if client {
				other++
			}
			is(t, "Hear", b.hear(t, other), nil)
			theirs = other
			b.marks(t, mine, theirs)
		}
	}
}

// Mine, Left, Known and Marks change nothing, however often they are called.
func TestP14_1_AskingChangesNothing(t *testing.T) {
	b := given(t, false, 2, 3)
	b.send(t, 8)
	b.hear(t, 5)
	for range 10 {
		b.marks(t, 8, 5)
	}
	b.nexts(t, 12, 14)
}

func TestR4_CallsThatFailLeaveNoTrace(t *testing.T) {
	eachEnd(func(client bool, skip int) {
		b := given(t, client, skip, 3)
		b.send(t, uint32(b.p.number(skip)))
		b.hear(t, uint32(b.p.number(skip))+1)
		stood := b.p
		for range 3 {
			for _, id := range b.edges() {
				p := stood // only those are called that it says will fail
				if p.send(id) != nil {
					b.send(t, id)
				}
				if p.hear(id) != nil {
					b.hear(t, id)
				}
			}
			b.tells(t)
		}
		if len(b.p.sent) != len(stood.sent) || len(b.p.heard) != len(stood.heard) {
			t.Errorf("%v has become %v", stood, b.p)
		}
	})
}

func TestR7_ANilIDs(t *testing.T) {
	var x *ids.IDs
	for range 2 {
		for _, id := range anywhere {
			if x.Mine(id) || x.Known(id) {
				t.Errorf("Mine or Known of %d", id)
			}
			if err := x.Sent(id); !sentinels.Just(err, api.ErrNil) {
				t.Errorf("Sent(%d): %v", id, err)
			}
			if err := x.Hear(id); !sentinels.Just(err, api.ErrNil) {
				t.Errorf("Hear(%d): %v", id, err)
			}
		}
		if id, err := x.Next(); id != 0 || !sentinels.Just(err, api.ErrNil) {
			t.Errorf("Next: %d, %v", id, err)
		}
		if mine, theirs := x.Marks(); mine != 0 || theirs != 0 || x.Left() != 0 {
			t.Errorf("Marks %d, %d, Left %d", mine, theirs, x.Left())
		}
	}
}
