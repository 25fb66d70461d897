package backlog_test

import (
	"math"
	"slices"
	"testing"

	"culvert/api"
	"culvert/backlog"
	"culvert/sentinels"
)

// plain is what the chapter says that a Backlog has: a most, and numbers in the order in which they were put in.
type plain struct {
	most int
	list []uint32
}

func (p *plain) put(id uint32) error {
	switch {
	case slices.Contains(p.list, id):
		return api.ErrTwice
	case len(p.list) == p.most:
		return api.ErrFull
	}
	p.list = append(p.list, id)
	return nil
}

func (p *plain) head() (uint32, bool) {
	if len(p.list) == 0 {
		return 0, false
	}
	return p.list[0], true
}

func (p *plain) remove(id uint32) bool {
	i := slices.Index(p.list, id)
	if i >= 0 {
		p.list = slices.Delete(p.list, i, i+1)
	}
	return i >= 0
}

// both is a Backlog beside a plain one.
type both struct {
	x *backlog.Backlog
	p plain
}

// made: a new Backlog, which must come about, with these numbers, beside a plain one.
func made(t *testing.T, most int, ids ...uint32) *both {
	t.Helper()
	x, err := backlog.New(most)
	if x == nil || err != nil {
		t.Fatalf("New(%d): %v, %v", most, x, err)
	}
	b := &both{x, plain{most: most}}
	for _, id := range ids {
		if b.put(t, id) != nil {
			t.Fatalf("%d doesn't go in", id)
		}
	}
	b.tells(t)
	return b
}

// turned: the same, but so many others have gone through it, so that its queue begins at another place of its list.
func turned(t *testing.T, times, most int, ids ...uint32) *both {
	t.Helper()
	b := made(t, most)
	for i := range times {
		b.put(t, uint32(900+i))
	}
	for i, id := range ids {
		if i < times {
			b.take(t)
		}
		b.put(t, id)
	}
	for len(b.p.list) > len(ids) {
		b.take(t)
	}
	b.lists(t, ids...)
	return b
}

func (b *both) put(t *testing.T, id uint32) error {
	t.Helper()
	want := b.p.put(id)
	if err := b.x.Put(id); !sentinels.Just(err, want) {
		t.Fatalf("Put(%d), then %v: %v, want %v", id, b.p, err, want)
	}
	return want
}

func (b *both) take(t *testing.T) (uint32, bool) {
	t.Helper()
	want, wantOK := b.p.head()
	if wantOK {
		b.p.list = b.p.list[1:]
	}
	id, ok := b.x.Take()
	if id != want || ok != wantOK {
		t.Fatalf("Take, then %v: %d, %v, want %d, %v", b.p, id, ok, want, wantOK)
	}
	return id, ok
}

func (b *both) remove(t *testing.T, id uint32) bool {
	t.Helper()
	want := b.p.remove(id)
	if got := b.x.Remove(id); got != want {
		t.Fatalf("Remove(%d), then %v: %v, want %v", id, b.p, got, want)
	}
	return want
}

func (b *both) clear(t *testing.T) int {
	t.Helper()
	want := len(b.p.list)
	b.p.list = nil
	if n := b.x.Clear(); n != want {
		t.Fatalf("Clear: %d, want %d", n, want)
	}
	return want
}

// tells: every answer that changes nothing is the plain one's; Has for these numbers, those that are in it and those beside them.
func (b *both) tells(t *testing.T, asked ...uint32) {
	t.Helper()
	if n := b.x.Len(); n != len(b.p.list) || n > b.p.most {
		t.Fatalf("Len: %d of %v", n, b.p)
	}
	if got := b.x.List(); !slices.Equal(got, b.p.list) {
		t.Fatalf("List: %v of %v", got, b.p)
	}
	want, wantOK := b.p.head()
	if id, ok := b.x.Head(); id != want || ok != wantOK {
		t.Fatalf("Head: %d, %v of %v", id, ok, b.p)
	}
	for _, id := range b.p.list {
		asked = append(asked, id-1, id, id+1) // it may wrap: that is a number too
	}
	for _, id := range append(asked, numbers...) {
		if got := b.x.Has(id); got != slices.Contains(b.p.list, id) {
			t.Fatalf("Has(%d): %v of %v", id, got, b.p)
		}
	}
}

// lists: just these must be in it, in this order, by the chapter's words and not by the plain one's alone.
func (b *both) lists(t *testing.T, want ...uint32) {
	t.Helper()
	b.tells(t)
	if !slices.Equal(b.p.list, want) {
		t.Fatalf("in it are %v, want %v", b.p.list, want)
	}
}

// takes: just these must come out, in this order, and then none.
func (b *both) takes(t *testing.T, want ...uint32) {
	t.Helper()
	for i, id := range want {
		if got, ok := b.take(t); got != id || !ok {
			t.Fatalf("Take number %d: %d, %v, want %d", i, got, ok, id)
		}
		b.lists(t, want[i+1:]...)
	}
	if id, ok := b.take(t); id != 0 || ok {
		t.Fatalf("Take of none: %d, %v", id, ok)
	}
}

// numbers: the edges of the numbers, and some that are alike if one is cut to fewer bits or taken with a sign; they neither rise nor fall.
var numbers = []uint32{
	7, 0, math.MaxUint32, 1, 1 << 31, 1<<31 - 1, 65535, 256, 255, 65536, 257, 2, 1<<31 + 1, 1<<24 + 1, math.MaxUint32 - 1, 65537,
}

// orders: each order of the numbers 0 to n - 1 goes to use.
func orders(n int, use func(order []int)) {
	var add func(order []int)
	add = func(order []int) {
		if len(order) == n {
			use(order)
		}
		for i := range n {
			if !slices.Contains(order, i) {
				add(append(slices.Clone(order), i))
			}
		}
	}
	add(nil)
}
