package pings_test

import (
	"math"
	"slices"
	"sync"
	"testing"

	"culvert/api"
	"culvert/draws"
	"culvert/pings"
)

// shortCalls: each call of the short runs.
func shortCalls(t *testing.T) []func(b *both) {
	calls := []func(b *both){
		func(b *both) { b.ask(t) },
		func(b *both) { b.answered(t) },
		func(b *both) { b.replied(t) },
		func(b *both) { b.asked(t, 2) },
		func(b *both) { b.asked(t, math.MaxUint32) },
	}
	for token := range uint32(3) {
		calls = append(calls, func(b *both) { b.heard(t, token+1) })
	}
	return calls
}

func TestP17_1_EveryOrderOfSixCalls(t *testing.T) {
	calls := shortCalls(t)
	for n := range 1 << 18 { // of eight calls each six have a number
		b := made(t, 2)
		for range 6 {
			calls[n%len(calls)](b)
			b.tells(t)
			n /= len(calls)
		}
		b.empties(t)
	}
}

// turn: one drawn call; the more of them ask, the more often it is full.
func (b *both) turn(t *testing.T, row *draws.Draws, asking int) {
	t.Helper()
	near := uint32(row.Below(b.p.asked + 3)) // one that waits, or was answered, or is still to come, or 0
	if n := len(b.p.waiting); n > 0 && row.Below(2) == 0 {
		near = b.p.waiting[row.Below(n)]
	}
	switch n := row.Below(64); {
	case n < asking/2:
		b.ask(t)
	case n < asking:
		b.asked(t, near)
	case n < asking+(64-asking)/2:
		b.replied(t)
	case n < 63:
		b.heard(t, near)
	default:
		b.answered(t)
	}
}

// R9: two at once, neither of which hears of the other.
func TestP17_3_LongRunsOfTwo(t *testing.T) {
	for seed := range draws.Draws(80) {
		asking := 16 + seed.Below(40)
		two := [2]*both{made(t, 1+seed.Below(6)), made(t, 1+seed.Below(60))}
		for range 1500 {
			two[seed.Below(2)].turn(t, &seed, asking)
			for _, b := range two {
				b.tells(t)
			}
		}
		for _, b := range two {
			b.empties(t)
		}
	}
}

// P17.2: each token that was asked is in just one place, and none is told that wasn't heard.
func TestP17_2_EachTokenIsInOnePlace(t *testing.T) {
	for seed := range draws.Draws(40) {
		p, err := pings.New(1 + seed.Below(8))
		if err != nil {
			t.Fatal(err)
		}
		var asked, untold, told []uint32
		for range 600 {
			switch seed.Below(5) {
			case 0, 1:
				if token, err := p.Ask(); err == nil {
					asked = append(asked, token)
				}
			case 2, 3:
				token := uint32(seed.Below(len(asked) + 2))
				if p.Heard(token) == nil {
					untold = append(untold, token)
				}
			case 4:
				told = append(told, p.Answered()...)
				untold = nil
			}
			places := slices.Concat(p.Waiting(), untold, told)
			slices.Sort(places)
			if !slices.Equal(places, asked) { // asked rises, and each token must be there once
				t.Fatalf("waiting, untold and told: %v, asked: %v", places, asked)
			}
		}
		if rest := p.Answered(); !slices.Equal(rest, untold) {
			t.Fatalf("Answered: %v, want %v", rest, untold)
		}
	}
}

// The greatest one: it fills up on both sides, again and again.
func TestP17_3_LongRunAtTheLimit(t *testing.T) {
	b := made(t, api.MaxPings)
	row := draws.Draws(1)
	limits, floods := 0, 0
	for n := range 15_000 {
		switch row.Below(8) {
		case 0:
			b.replied(t)
		case 1:
			if n := len(b.p.waiting); n > 0 {
				b.heard(t, b.p.waiting[row.Below(n)])
			}
		case 2, 3, 4:
			if _, err := b.ask(t); err == api.ErrLimit {
				limits++
			}
		default:
			if b.asked(t, uint32(row.Below(9))) == api.ErrFlood {
				floods++
			}
		}
		if n%50 == 0 {
			b.tells(t)
		}
	}
	if limits == 0 || floods == 0 {
		t.Errorf("full %d and %d times", limits, floods)
	}
	b.tells(t)
	b.empties(t)
}

// R4: calls that are refused change nothing, how often ever they are made, at each fill.
func TestR4_CallsThatFailChangeNothing(t *testing.T) {
	for most := 1; most <= 8; most++ {
		for gone := range most {
			b := asks(t, most, most)
			for i := range most {
				b.asked(t, numbers[i])
			}
			for i := range gone { // so that answers wait to be told
				b.heard(t, uint32(i+1))
				b.ask(t)
			}
			waiting, untold, owed := slices.Clone(b.p.waiting), slices.Clone(b.p.answered), slices.Clone(b.p.owed)
			for range 3 {
				for _, token := range append([]uint32{uint32(most + gone + 1)}, numbers...) {
					if _, err := b.ask(t); err == nil || b.asked(t, token) == nil {
						t.Fatal("more than the most")
					}
					if !slices.Contains(waiting, token) && b.heard(t, token) == nil {
						t.Fatalf("Heard(%d), which doesn't wait", token)
					}
					b.waits(t, waiting...)
				}
			}
			b.heard(t, waiting[0])
			if token, err := b.ask(t); int(token) != most+gone+1 || err != nil {
				t.Fatalf("Ask behind those that failed: %d, %v", token, err)
			}
			b.answers(t, append(untold, waiting[0])...)
			b.replies(t, owed...)
		}
	}
}

// spoil writes over all of a list, its spare room too.
func spoil(list []uint32) {
	list = list[:cap(list)]
	for i := range list {
		list[i] = 99
	}
}

func TestP17_4_WaitingAnswersNewMemory(t *testing.T) {
	b := made(t, 40)
	for n := range 60 {
		one, two := b.x.Waiting(), b.x.Waiting()
		spoil(one)
		if !slices.Equal(two, b.p.waiting) {
			t.Fatalf("Waiting: %v behind writing over another, want %v", two, b.p.waiting)
		}
		b.tells(t)
		spoil(two)
		b.ask(t)
		if n%3 == 2 {
			b.heard(t, b.p.waiting[len(b.p.waiting)/2])
		}
		b.tells(t)
	}
	b.empties(t)
}

// What was told is written over, with its spare room: it is not in what is told later, and what is told later is not in it.
func TestP17_4_AnsweredAnswersNewMemory(t *testing.T) {
	for first := range 12 {
		for second := range 12 {
			b := asks(t, 30, 30)
			token := uint32(1)
			hear := func(n int) []uint32 {
				var all []uint32
				for range n {
					b.heard(t, token)
					all = append(all, token)
					token++
				}
				return all
			}
			want := hear(first)
			one := b.x.Answered()
			b.p.answered = nil
			later := hear(second)
			if !slices.Equal(one, want) {
				t.Fatalf("what was told has become %v, it was %v", one, want)
			}
			spoil(one)
			last := hear(2)
			two := b.x.Answered()
			b.p.answered = nil
			if !slices.Equal(two, slices.Concat(later, last)) {
				t.Fatalf("Answered: %v behind writing over another, want %v and %v", two, later, last)
			}
			spoil(two)
			b.answers(t)
			b.waits(t, upTo(30)[first+second+2:]...)
		}
	}
}

// What was answered stays as it was, whatever becomes of the Pings.
func TestP17_4_AListThatWasAnsweredStays(t *testing.T) {
	for n := range 12 {
		b := asks(t, 12, n)
		list := b.x.Waiting()
		for _, token := range upTo(n) {
			b.heard(t, token)
		}
		told := b.x.Answered()
		for range 12 {
			b.ask(t)
			b.asked(t, 77)
		}
		b.heard(t, uint32(n+1))
		if !slices.Equal(list, upTo(n)) || !slices.Equal(told, upTo(n)) {
			t.Errorf("the lists have become %v and %v, they were %v", list, told, upTo(n))
		}
	}
}

// R9: what is told hangs on nothing but the calls.
func TestR9_PingsAtTheSameTime(t *testing.T) {
	var all sync.WaitGroup
	told := make([][]uint32, 8)
	for i := range told {
		all.Go(func() {
			p, err := pings.New(30)
			if err != nil {
				return // it is told below
			}
			row := draws.Draws(i % 2)
			for range 2000 {
				p.Ask()
				waiting := p.Waiting()
				p.Heard(waiting[row.Below(len(waiting))])
				p.Ask()
				p.Asked(uint32(row.Below(80)))
				if row.Below(3) == 0 {
					token, _ := p.Replied()
					told[i] = append(append(told[i], token), p.Answered()...)
				}
				told[i] = append(told[i], waiting...)
			}
		})
	}
	all.Wait()
	for i, list := range told {
		if len(list) == 0 || !slices.Equal(list, told[i%2]) {
			t.Errorf("number %d tells something else", i)
		}
	}
	if slices.Equal(told[0], told[1]) {
		t.Error("both rows make the same")
	}
}
