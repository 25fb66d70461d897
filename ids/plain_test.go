package ids_test

import (
	"math"
	"slices"
	"testing"

	"culvert/api"
	"culvert/ids"
	"culvert/sentinels"
)

// plain is what the chapter says that an IDs keeps, with all numbers that were used: an end's own are counted from 0 on.
type plain struct {
	client      bool
	skip, given int
	sent, heard []uint32
}

// number: the end's own with this count; int, lest one behind the last wraps.
func (p *plain) number(count int) int {
	if p.client {
		return 2*count + 1
	}
	return 2*count + 2
}

// all: how many own numbers an end has, used or not.
func (p *plain) all() int {
	if p.client {
		return 1 << 31
	}
	return 1<<31 - 1
}

func (p *plain) mine(id uint32) bool { return id != 0 && (id&1 == 1) == p.client }

func (p *plain) left() int { return p.all() - p.skip - p.given }

func (p *plain) next() (uint32, error) {
	if p.left() == 0 {
		return 0, api.ErrExhausted
	}
	p.given++
	return uint32(p.number(p.skip + p.given - 1)), nil
}

func (p *plain) send(id uint32) error {
	count := (int(id) - 1) / 2
	switch {
	case !p.mine(id):
		return api.ErrParity
	case count < p.skip || count >= p.skip+p.given:
		return api.ErrMissing
	case id <= greatest(p.sent):
		return api.ErrReused
	}
	p.sent = append(p.sent, id)
	return nil
}

func (p *plain) hear(id uint32) error {
	switch {
	case id == 0:
		return api.ErrID
	case p.mine(id):
		return api.ErrParity
	case id <= greatest(p.heard):
		return api.ErrReused
	}
	p.heard = append(p.heard, id)
	return nil
}

func (p *plain) known(id uint32) bool {
	if p.mine(id) {
		return id <= greatest(p.sent)
	}
	return id != 0 && id <= greatest(p.heard)
}

// greatest: 0 of none.
func greatest(list []uint32) uint32 {
	var top uint32
	for _, id := range list {
		top = max(top, id)
	}
	return top
}

// both is an IDs beside a plain one.
type both struct {
	x *ids.IDs
	p plain
}

// made: a new IDs, which must come about, beside a plain one.
func made(t *testing.T, client bool, skip int) *both {
	t.Helper()
	x, err := ids.New(client, skip)
	if x == nil || err != nil {
		t.Fatalf("New(%v, %d): %v, %v", client, skip, x, err)
	}
	return &both{x: x, p: plain{client: client, skip: skip}}
}

// given: a new IDs that has given out so many.
func given(t *testing.T, client bool, skip, many int) *both {
	t.Helper()
	b := made(t, client, skip)
	for range many {
		b.next(t)
	}
	return b
}

func (b *both) next(t *testing.T) (uint32, error) {
	t.Helper()
	want, wantErr := b.p.next()
	id, err := b.x.Next()
	if id != want || !sentinels.Just(err, wantErr) {
		t.Fatalf("Next at %v: %d, %v, want %d, %v", b.p, id, err, want, wantErr)
	}
	return id, wantErr
}

func (b *both) send(t *testing.T, id uint32) error {
	t.Helper()
	want := b.p.send(id)
	if err := b.x.Sent(id); !sentinels.Just(err, want) {
		t.Fatalf("Sent(%d) at %v: %v, want %v", id, b.p, err, want)
	}
	return want
}

func (b *both) hear(t *testing.T, id uint32) error {
	t.Helper()
	want := b.p.hear(id)
	if err := b.x.Hear(id); !sentinels.Just(err, want) {
		t.Fatalf("Hear(%d) at %v: %v, want %v", id, b.p, err, want)
	}
	return want
}

// tells: every answer that changes nothing is the plain one's, for these numbers and those at the edges.
func (b *both) tells(t *testing.T, asked ...uint32) {
	t.Helper()
	if got := b.x.Left(); got != b.p.left() {
		t.Fatalf("Left at %v: %d, want %d", b.p, got, b.p.left())
	}
	mine, theirs := b.x.Marks()
	if mine != greatest(b.p.sent) || theirs != greatest(b.p.heard) {
		t.Fatalf("Marks at %v: %d, %d", b.p, mine, theirs)
	}
	for _, id := range append(b.edges(), asked...) {
		if got := b.x.Mine(id); got != b.p.mine(id) {
			t.Fatalf("Mine(%d) at %v: %v", id, b.p, got)
		}
		if got := b.x.Known(id); got != b.p.known(id) {
			t.Fatalf("Known(%d) at %v: %v", id, b.p, got)
		}
	}
}

// edges: numbers around which an answer changes, or would if one were cut to fewer bits.
func (b *both) edges() []uint32 {
	list := slices.Clone(anywhere)
	for _, around := range []int{b.p.number(b.p.skip), b.p.number(b.p.skip + b.p.given), int(greatest(b.p.sent)), int(greatest(b.p.heard))} {
		for off := -3; off <= 3; off++ {
			list = append(list, uint32(around+off)) // it may wrap: that is a number too
		}
	}
	return list
}

// anywhere: the edges of the numbers themselves.
var anywhere = []uint32{
	0, 1, 2, 3, 4, 5, 255, 256, 65535, 65536, 65537, 1<<31 - 2, 1<<31 - 1, 1 << 31, 1<<31 + 1,
	math.MaxUint32 - 3, math.MaxUint32 - 2, math.MaxUint32 - 1, math.MaxUint32,
}

// skips: how many may be passed over, at the edges.
var skips = []int{0, 1, 2, 3, 127, 128, 32767, 32768, 1<<30 - 1, 1 << 30, 1<<30 + 1, most - 3, most - 2, most - 1, most}

const most = api.MaxSkip

// eachEnd: the client and the server, with each number that is passed over at the edges.
func eachEnd(check func(client bool, skip int)) {
	for _, client := range []bool{true, false} {
		for _, skip := range skips {
			check(client, skip)
		}
	}
}

// is: what a call must fail with, by the chapter's words and not by the plain one's alone; nil if it must not fail.
func is(t *testing.T, call string, got, want error) {
	t.Helper()
	if got != want {
		t.Fatalf("%s: %v, want %v", call, got, want)
	}
}
