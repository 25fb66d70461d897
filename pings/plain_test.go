package pings_test

import (
	"math"
	"slices"
	"testing"

	"culvert/api"
	"culvert/pings"
	"culvert/sentinels"
)

// plain is what the chapter says that a Pings has: a most, and three lists in their orders; beside them how many tokens were asked.
type plain struct {
	most                    int
	asked                   int
	waiting, answered, owed []uint32
}

func (p *plain) ask() (uint32, error) {
	if len(p.waiting) == p.most {
		return 0, api.ErrLimit
	}
	p.asked++
	p.waiting = append(p.waiting, uint32(p.asked))
	return uint32(p.asked), nil
}

func (p *plain) heard(token uint32) error {
	i := slices.Index(p.waiting, token)
	if i < 0 {
		return api.ErrPing
	}
	p.waiting = slices.Delete(slices.Clone(p.waiting), i, i+1)
	p.answered = append(p.answered, token)
	return nil
}

func (p *plain) askedBy(token uint32) error {
	if len(p.owed) == p.most {
		return api.ErrFlood
	}
	p.owed = append(p.owed, token)
	return nil
}

func (p *plain) replied() (uint32, bool) {
	if len(p.owed) == 0 {
		return 0, false
	}
	first := p.owed[0]
	p.owed = slices.Clone(p.owed[1:])
	return first, true
}

// both is a Pings beside a plain one.
type both struct {
	x *pings.Pings
	p plain
}

// made: a new Pings, which must come about, beside a plain one.
func made(t *testing.T, most int) *both {
	t.Helper()
	x, err := pings.New(most)
	if x == nil || err != nil {
		t.Fatalf("New(%d): %v, %v", most, x, err)
	}
	b := &both{x, plain{most: most}}
	b.tells(t)
	return b
}

// asks: the same, and so many of this end's wait.
func asks(t *testing.T, most, many int) *both {
	t.Helper()
	b := made(t, most)
	for n := range many {
		if token, err := b.ask(t); int(token) != n+1 || err != nil {
			t.Fatalf("Ask number %d: %d, %v", n+1, token, err)
		}
	}
	return b
}

// owes: the same, but these are owed, none of this end's wait, and so many others have been owed ahead of them.
func owes(t *testing.T, most, times int, tokens ...uint32) *both {
	t.Helper()
	b := made(t, most)
	for i := range times {
		b.asked(t, uint32(900+i))
		b.replied(t)
	}
	for _, token := range tokens {
		if b.asked(t, token) != nil {
			t.Fatalf("%d is not taken", token)
		}
	}
	return b
}

func (b *both) ask(t *testing.T) (uint32, error) {
	t.Helper()
	want, why := b.p.ask()
	token, err := b.x.Ask()
	if token != want || !sentinels.Just(err, why) {
		t.Fatalf("Ask, then %v: %d, %v, want %d, %v", b.p, token, err, want, why)
	}
	return want, why
}

func (b *both) heard(t *testing.T, token uint32) error {
	t.Helper()
	want := b.p.heard(token)
	if err := b.x.Heard(token); !sentinels.Just(err, want) {
		t.Fatalf("Heard(%d), then %v: %v, want %v", token, b.p, err, want)
	}
	return want
}

func (b *both) answered(t *testing.T) []uint32 {
	t.Helper()
	want := b.p.answered
	b.p.answered = nil
	if got := b.x.Answered(); !slices.Equal(got, want) {
		t.Fatalf("Answered, then %v: %v, want %v", b.p, got, want)
	}
	return want
}

func (b *both) asked(t *testing.T, token uint32) error {
	t.Helper()
	want := b.p.askedBy(token)
	if err := b.x.Asked(token); !sentinels.Just(err, want) {
		t.Fatalf("Asked(%d), then %v: %v, want %v", token, b.p, err, want)
	}
	return want
}

func (b *both) replied(t *testing.T) (uint32, bool) {
	t.Helper()
	want, wantOK := b.p.replied()
	token, ok := b.x.Replied()
	if token != want || ok != wantOK {
		t.Fatalf("Replied, then %v: %d, %v, want %d, %v", b.p, token, ok, want, wantOK)
	}
	return token, ok
}

// tells: every answer that changes nothing is the plain one's.
func (b *both) tells(t *testing.T) {
	t.Helper()
	if got := b.x.Waiting(); !slices.Equal(got, b.p.waiting) || len(got) > b.p.most {
		t.Fatalf("Waiting: %v of %v", got, b.p)
	}
	if n := b.x.Owed(); n != len(b.p.owed) || n > b.p.most {
		t.Fatalf("Owed: %d of %v", n, b.p)
	}
}

// waits: just these must wait, in this order, by the chapter's words and not by the plain one's alone.
func (b *both) waits(t *testing.T, want ...uint32) {
	t.Helper()
	b.tells(t)
	if !slices.Equal(b.p.waiting, want) {
		t.Fatalf("waiting are %v, want %v", b.p.waiting, want)
	}
}

// answers: just these must be told, in this order, and then none.
func (b *both) answers(t *testing.T, want ...uint32) {
	t.Helper()
	if got := b.answered(t); !slices.Equal(got, want) {
		t.Fatalf("Answered: %v, want %v", got, want)
	}
	if got := b.answered(t); len(got) != 0 {
		t.Fatalf("Answered again: %v", got)
	}
	b.tells(t)
}

// replies: just these must come out, in this order, and then none.
func (b *both) replies(t *testing.T, want ...uint32) {
	t.Helper()
	for i, token := range want {
		if n := b.x.Owed(); n != len(want)-i {
			t.Fatalf("Owed: %d ahead of number %d of %v", n, i, want)
		}
		if got, ok := b.replied(t); got != token || !ok {
			t.Fatalf("Replied number %d: %d, %v, want %d", i, got, ok, token)
		}
		b.tells(t)
	}
	if token, ok := b.replied(t); token != 0 || ok {
		t.Fatalf("Replied of none: %d, %v", token, ok)
	}
	b.tells(t)
}

// empties: all that is still to be told, by the calls that tell it once.
func (b *both) empties(t *testing.T) {
	t.Helper()
	b.answers(t, slices.Clone(b.p.answered)...)
	b.replies(t, slices.Clone(b.p.owed)...)
}

// numbers: the edges of the numbers, and some that are alike if one is cut to fewer bits or taken with a sign; they neither rise nor fall.
var numbers = []uint32{
	7, 0, math.MaxUint32, 1, 1 << 31, 1<<31 - 1, 65535, 256, 255, 65536, 257, 2, 1<<31 + 1, 1<<24 + 1, math.MaxUint32 - 1, 65537,
}

// orders: each order of the numbers 1 to n goes to use.
func orders(n uint32, use func(order []uint32)) {
	var add func(order []uint32)
	add = func(order []uint32) {
		if len(order) == int(n) {
			use(order)
		}
		for i := range n {
			if !slices.Contains(order, i+1) {
				add(append(slices.Clone(order), i+1))
			}
		}
	}
	add(nil)
}

// upTo: 1 to n.
func upTo(n int) []uint32 {
	var all []uint32
	for i := range n {
		all = append(all, uint32(i+1))
	}
	return all
}
