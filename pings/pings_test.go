package pings_test

import (
	"math"
	"slices"
	"testing"

	"culvert/api"
	"culvert/pings"
	"culvert/sentinels"
)

// The chapter's examples, in their order.
func TestP17_1_Examples(t *testing.T) {
	p, err := pings.New(2)
	if p == nil || err != nil {
		t.Fatalf("New(2): %v, %v", p, err)
	}
	asks := func(want uint32, why error) {
		t.Helper()
		if token, err := p.Ask(); token != want || !sentinels.Just(err, why) {
			t.Errorf("Ask: %d, %v, want %d, %v", token, err, want, why)
		}
	}
	fails := func(call string, err, want error) {
		t.Helper()
		if !sentinels.Just(err, want) {
			t.Errorf("%s: %v, want %v", call, err, want)
		}
	}
	lists := func(call string, got []uint32, want ...uint32) {
		t.Helper()
		if !slices.Equal(got, want) {
			t.Errorf("%s: %v, want %v", call, got, want)
		}
	}
	asks(1, nil)
	asks(2, nil)
	asks(0, api.ErrLimit)
	fails("Heard(3)", p.Heard(3), api.ErrPing)
	fails("Heard(2)", p.Heard(2), nil)
	fails("Heard(2) again", p.Heard(2), api.ErrPing)
	asks(3, nil)
	lists("Waiting", p.Waiting(), 1, 3)
	fails("Heard(1)", p.Heard(1), nil)
	lists("Answered", p.Answered(), 2, 1)
	lists("Answered again", p.Answered())
	fails("Asked(9)", p.Asked(9), nil)
	fails("Asked(9) again", p.Asked(9), nil)
	fails("Asked(8)", p.Asked(8), api.ErrFlood)
	if token, ok := p.Replied(); token != 9 || !ok {
		t.Errorf("Replied: %d, %v", token, ok)
	}
	if n := p.Owed(); n != 1 {
		t.Errorf("Owed: %d", n)
	}
}

func TestP17_1_NewTakesAMostFromOneToTheLimit(t *testing.T) {
	for _, most := range []int{
		math.MinInt, math.MinInt + 1, -1 << 32, -1024, -2, -1, 0,
		api.MaxPings + 1, api.MaxPings + 2, 4096, 1<<31 - 1, 1 << 31, 1 << 32, 1<<32 + 1, 1<<32 + 1024, math.MaxInt,
	} {
		if p, err := pings.New(most); p != nil || !sentinels.Just(err, api.ErrRange) {
			t.Errorf("New(%d): %v, %v", most, p, err)
		}
	}
	for most := 1; most <= 1024; most++ {
		p, err := pings.New(most)
		if p == nil || err != nil {
			t.Fatalf("New(%d): %v, %v", most, p, err)
		}
		token, ok := p.Replied()
		if token != 0 || ok || p.Owed() != 0 || len(p.Waiting()) != 0 || len(p.Answered()) != 0 {
			t.Fatalf("New(%d) has something in it", most)
		}
	}
}

// P17.3: the most is the bound of both sides, at each most that may be.
func TestP17_3_AsManyAsTheMostAndNoMore(t *testing.T) {
	for most := 1; most <= api.MaxPings; most += 1 + most/8 {
		fullAt(t, most)
	}
	fullAt(t, api.MaxPings)
}

// fullAt: so many of each side are taken, and no more, and come out in their order.
func fullAt(t *testing.T, most int) {
	t.Helper()
	b := asks(t, most, most)
	var owed []uint32
	for n := range most {
		token := uint32(n) * 2654435761 // it wraps: spread over all numbers
		if b.asked(t, token) != nil {
			t.Fatalf("Asked number %d of %d", n, most)
		}
		owed = append(owed, token)
	}
	for _, token := range []uint32{0, 5, 1 << 31, math.MaxUint32} {
		if _, err := b.ask(t); err != api.ErrLimit || b.asked(t, token) != api.ErrFlood {
			t.Fatalf("one more than %d", most)
		}
	}
	b.waits(t, upTo(most)...)
	for _, token := range upTo(most) {
		if b.heard(t, token) != nil {
			t.Fatalf("Heard(%d) of %d", token, most)
		}
	}
	b.waits(t)
	b.answers(t, upTo(most)...)
	b.replies(t, owed...)
}

// A token that was answered is asked no second time, whatever is told or not: the next is one more than the last.
func TestP17_1_TokensRiseByOne(t *testing.T) {
	for most := 1; most <= 5; most++ {
		b := made(t, most)
		for want := uint32(1); want <= 300; want++ {
			if len(b.p.waiting) == most {
				for range 3 { // those that fail take no token
					b.ask(t)
				}
				b.heard(t, b.p.waiting[int(want)*7%most])
			}
			if want%11 == 0 {
				b.answered(t)
			}
			if token, err := b.ask(t); token != want || err != nil {
				t.Fatalf("Ask: %d, %v, want %d", token, err, want)
			}
		}
		b.empties(t)
	}
}

// The answers come in every order: the rest waits in the order in which it was asked, the answers are told in their own.
func TestP17_1_AnswersComeInEveryOrder(t *testing.T) {
	const n = 6
	orders(n, func(order []uint32) {
		for most := n; most <= n+1; most++ {
			b := asks(t, most, n)
			left := upTo(n)
			for _, token := range order {
				if b.heard(t, token) != nil || b.heard(t, token) != api.ErrPing {
					t.Fatalf("Heard(%d) of %v", token, order)
				}
				left = slices.DeleteFunc(left, func(held uint32) bool { return held == token })
				b.waits(t, left...)
			}
			b.answers(t, order...)
		}
	})
}

// What waits stays in its order though others come behind it and go out from among it.
func TestP17_1_WaitingIsInTheOrderOfAsking(t *testing.T) {
	b := asks(t, 4, 4)
	for _, step := range []struct {
		gone uint32
		left []uint32
	}{
		{2, []uint32{1, 3, 4, 5}},
		{5, []uint32{1, 3, 4, 6}},
		{1, []uint32{3, 4, 6, 7}},
		{4, []uint32{3, 6, 7, 8}},
		{7, []uint32{3, 6, 8, 9}},
	} {
		if b.heard(t, step.gone) != nil {
			t.Fatalf("Heard(%d)", step.gone)
		}
		if _, err := b.ask(t); err != nil {
			t.Fatal(err)
		}
		b.waits(t, step.left...)
	}
	b.answers(t, 2, 5, 1, 4, 7)
}

// A token that was never asked, one that is to be asked yet, and one that was answered, told or not.
func TestP17_1_HeardOfWhatDoesNotWait(t *testing.T) {
	for most := 1; most <= 3; most++ {
		for many := range most + 1 {
			b := asks(t, most, many)
			for _, token := range append([]uint32{uint32(many + 1), uint32(many + 2)}, numbers...) {
				if token >= 1 && token <= uint32(many) {
					continue
				}
				if b.heard(t, token) != api.ErrPing {
					t.Fatalf("Heard(%d) of %v", token, b.p)
				}
				b.waits(t, upTo(many)...)
			}
			for _, token := range upTo(many) {
				b.heard(t, token)
				if b.heard(t, token) != api.ErrPing {
					t.Fatalf("Heard(%d) twice", token)
				}
			}
			b.answers(t, upTo(many)...)
			for _, token := range upTo(many) {
				if b.heard(t, token) != api.ErrPing {
					t.Fatalf("Heard(%d) behind Answered", token)
				}
			}
			b.answers(t)
		}
	}
}

// A failure that could pass for an answer to another token is one, whatever bits they have in common.
func TestP17_1_HeardTellsTokensApart(t *testing.T) {
	b := asks(t, 300, 300)
	for _, token := range upTo(300) {
		for _, other := range []uint32{token + 65536, token | 1<<31, token << 16, token + 1<<24, -token, ^token} {
			if other > 300 && b.heard(t, other) != api.ErrPing {
				t.Fatalf("Heard(%d) passes", other)
			}
		}
	}
	b.waits(t, upTo(300)...)
	b.answers(t)
}

// The answered have no bound of their own: room to ask comes back with each answer, whether it was told or not.
func TestP17_2_AsManyAnswersAsThereWereCanBeUntold(t *testing.T) {
	for most := 1; most <= 3; most++ {
		b := made(t, most)
		for n := range uint32(5000) {
			if token, err := b.ask(t); token != n+1 || err != nil {
				t.Fatalf("Ask: %d, %v", token, err)
			}
			if b.heard(t, n+1) != nil {
				t.Fatalf("Heard(%d)", n+1)
			}
		}
		b.waits(t)
		b.answers(t, upTo(5000)...)
	}
}

// The answers are told once, by the first Answered behind them.
func TestP17_2_AnAnswerIsToldOnce(t *testing.T) {
	const n = 8
	for choice := range 1 << n { // a one: Answered is called behind this token's answer
		b := asks(t, n, n)
		var since []uint32
		for i := range n {
			token := uint32(i*3%n + 1)
			b.heard(t, token)
			since = append(since, token)
			if choice>>i&1 == 1 {
				b.answers(t, since...)
				since = nil
			}
		}
		b.waits(t)
		b.answers(t, since...)
	}
}

// Waiting and Owed change nothing, however often they are called.
func TestP17_1_AskingWhatThereIsChangesNothing(t *testing.T) {
	b := asks(t, 4, 4)
	b.heard(t, 2)
	for _, token := range numbers[:4] {
		b.asked(t, token)
	}
	for range 10 {
		b.waits(t, 1, 3, 4)
	}
	if b.asked(t, 3) != api.ErrFlood {
		t.Error("asking has made room")
	}
	if token, err := b.ask(t); token != 5 || err != nil {
		t.Errorf("Ask: %d, %v", token, err)
	}
	b.answers(t, 2)
	b.replies(t, numbers[:4]...)
}

func TestP17_3_RepliesAreInTheOrderOfAsking(t *testing.T) {
	for n := range len(numbers) + 1 {
		for times := range 5 {
			owes(t, 20, times, numbers[:n]...).replies(t, numbers[:n]...)
		}
	}
	orders(5, func(order []uint32) {
		owes(t, 5, 0, order...).replies(t, order...)
	})
}

// One token may be owed several times: each of them is replied to, in its own place.
func TestP17_3_OneTokenIsOwedSeveralTimes(t *testing.T) {
	for n := range 243 { // each row of five tokens of these three
		var row []uint32
		for range 5 {
			row = append(row, []uint32{0, 9, math.MaxUint32}[n%3])
			n /= 3
		}
		b := owes(t, 5, 0, row...)
		if b.asked(t, row[0]) != api.ErrFlood {
			t.Fatalf("%v is not the most", row)
		}
		b.replies(t, row...)
	}
	for _, token := range numbers {
		b := owes(t, 3, 1, token, token, token)
		if b.asked(t, token) != api.ErrFlood {
			t.Fatalf("Asked(%d) a fourth time", token)
		}
		b.replies(t, token, token, token)
	}
}

// Each reply makes room for one more.
func TestP17_3_RoomComesBack(t *testing.T) {
	for most := 1; most < 7; most++ {
		b := owes(t, most, 0, numbers[:most]...)
		for round := range uint32(60) {
			rest := slices.Clone(b.p.owed[1:])
			b.replied(t)
			if b.asked(t, 1000+round) != nil || b.asked(t, 5) != api.ErrFlood {
				t.Fatalf("Asked behind Replied, of %d", most)
			}
			if !slices.Equal(b.p.owed, append(rest, 1000+round)) {
				t.Fatalf("owed are %v", b.p.owed)
			}
			b.tells(t)
		}
		b.empties(t)
	}
}

func TestP17_1_RepliedOfNone(t *testing.T) {
	b := made(t, 3)
	for range 5 {
		b.replies(t)
		b.asked(t, 0) // 0 is a token like any other: it is not the answer that there is none
		if token, ok := b.x.Replied(); token != 0 || !ok {
			t.Fatalf("Replied: %d, %v", token, ok)
		}
		b.p.replied()
		b.replies(t)
	}
}

// P17.3: neither side is held up by the other, and a token of the one is none of the other's.
func TestP17_3_TheTwoSidesDoNotTouch(t *testing.T) {
	for most := 1; most <= 4; most++ {
		b := asks(t, most, most) // no room to ask: there is to be asked
		for _, token := range upTo(most) {
			if b.asked(t, token+1) != nil {
				t.Fatalf("Asked(%d), where %d wait", token+1, most)
			}
		}
		b.waits(t, upTo(most)...)
		if token, ok := b.replied(t); token != 2 || !ok { // it is replied to, and its namesake waits on
			t.Fatalf("Replied: %d, %v", token, ok)
		}
		b.waits(t, upTo(most)...)
		if _, err := b.ask(t); err != api.ErrLimit {
			t.Fatal("a reply makes room to ask")
		}
		b.asked(t, 1)
		if b.heard(t, 1) != nil || b.asked(t, 5) != api.ErrFlood {
			t.Fatal("an answer makes room to be asked")
		}
		b.answers(t, 1)
		if b.asked(t, 5) != api.ErrFlood || b.heard(t, uint32(most+1)) != api.ErrPing {
			t.Fatal("what is owed is taken for what waits")
		}
		b.empties(t)
	}
	b := owes(t, 2, 0, 1, 2) // no room to be asked: there is to ask
	if b.heard(t, 1) != api.ErrPing || b.heard(t, 2) != api.ErrPing {
		t.Fatal("a token of the other end waits")
	}
	for _, want := range []uint32{1, 2} {
		if token, err := b.ask(t); token != want || err != nil {
			t.Fatalf("Ask: %d, %v", token, err)
		}
	}
	b.heard(t, 2)
	b.waits(t, 1)
	b.replies(t, 1, 2)
	b.waits(t, 1)
	b.answers(t, 2)
}

// F3: an answer to a ping that has been answered is the other end's fault, and so is one ping too many: ErrPing and ErrFlood alone, without ErrProtocol, for the layer above to tell of whom they come.
func TestF3_FaultsOfTheOtherEnd(t *testing.T) {
	b := asks(t, 1, 1)
	if err := b.x.Heard(2); !sentinels.Just(err, api.ErrPing) {
		t.Errorf("Heard of one that was never asked: %v", err)
	}
	if b.heard(t, 1) != nil {
		t.Error("Heard(1)")
	}
	if err := b.x.Heard(1); !sentinels.Just(err, api.ErrPing) {
		t.Errorf("Heard of one that was answered: %v", err)
	}
	b.asked(t, 4)
	if err := b.x.Asked(4); !sentinels.Just(err, api.ErrFlood) {
		t.Errorf("Asked above the most: %v", err)
	}
}

func TestR7_ANilPingsIsAnEmptyOne(t *testing.T) {
	var p *pings.Pings
	for range 2 {
		for _, token := range numbers {
			if err := p.Heard(token); !sentinels.Just(err, api.ErrNil) {
				t.Errorf("Heard(%d): %v", token, err)
			}
			if err := p.Asked(token); !sentinels.Just(err, api.ErrNil) {
				t.Errorf("Asked(%d): %v", token, err)
			}
		}
		if token, err := p.Ask(); token != 0 || !sentinels.Just(err, api.ErrNil) {
			t.Errorf("Ask: %d, %v", token, err)
		}
		if token, ok := p.Replied(); token != 0 || ok {
			t.Errorf("Replied: %d, %v", token, ok)
		}
		if p.Owed() != 0 || len(p.Waiting()) != 0 || len(p.Answered()) != 0 {
			t.Error("Owed, Waiting or Answered")
		}
	}
}
