package table_test

import (
	"math"
	"slices"
	"testing"

	"culvert/api"
	"culvert/sentinels"
	"culvert/table"
)

// entry is a number with its thing.
type entry[V any] struct {
	id uint32
	v  V
}

// plain is what the chapter says that a Table keeps: a room, and things, here in the order of their numbers.
type plain[V any] struct {
	room int
	list []entry[V]
}

// place: where the number stands, or would; and whether it is there.
func (p *plain[V]) place(id uint32) (int, bool) {
	for i, e := range p.list {
		if e.id >= id {
			return i, e.id == id
		}
	}
	return len(p.list), false
}

func (p *plain[V]) put(id uint32, v V) error {
	i, there := p.place(id)
	switch {
	case there:
		return api.ErrTwice
	case len(p.list) == p.room:
		return api.ErrFull
	}
	p.list = slices.Insert(p.list, i, entry[V]{id, v})
	return nil
}

func (p *plain[V]) get(id uint32) (v V, ok bool) {
	if i, there := p.place(id); there {
		return p.list[i].v, true
	}
	return v, false
}

func (p *plain[V]) drop(id uint32) (V, bool) {
	v, ok := p.get(id)
	if i, there := p.place(id); there {
		p.list = slices.Delete(p.list, i, i+1)
	}
	return v, ok
}

func (p *plain[V]) ids() []uint32 {
	var all []uint32
	for _, e := range p.list {
		all = append(all, e.id)
	}
	return all
}

// both is a Table beside a plain one.
type both[V comparable] struct {
	x *table.Table[V]
	p plain[V]
}

// made: a new Table, which must come about, beside a plain one.
func made[V comparable](t *testing.T, room int, entries ...entry[V]) *both[V] {
	t.Helper()
	x, err := table.New[V](room)
	if x == nil || err != nil {
		t.Fatalf("New(%d): %v, %v", room, x, err)
	}
	b := &both[V]{x: x, p: plain[V]{room: room}}
	for _, e := range entries {
		if b.put(t, e.id, e.v) != nil {
			t.Fatalf("%v doesn't go in", e)
		}
	}
	b.tells(t)
	return b
}

func (b *both[V]) put(t *testing.T, id uint32, v V) error {
	t.Helper()
	want := b.p.put(id, v)
	if err := b.x.Put(id, v); !sentinels.Just(err, want) {
		t.Fatalf("Put(%d, %v), then %v: %v, want %v", id, v, b.p, err, want)
	}
	return want
}

func (b *both[V]) drop(t *testing.T, id uint32) (V, bool) {
	t.Helper()
	want, wantOK := b.p.drop(id)
	v, ok := b.x.Drop(id)
	if v != want || ok != wantOK {
		t.Fatalf("Drop(%d), then %v: %v, %v, want %v, %v", id, b.p, v, ok, want, wantOK)
	}
	return v, ok
}

func (b *both[V]) clear(t *testing.T) int {
	t.Helper()
	want := len(b.p.list)
	b.p.list = nil
	if n := b.x.Clear(); n != want {
		t.Fatalf("Clear: %d, want %d", n, want)
	}
	return want
}

// tells: every answer that changes nothing is the plain one's, for these numbers, those that are held and those beside them.
func (b *both[V]) tells(t *testing.T, asked ...uint32) {
	t.Helper()
	if n := b.x.Len(); n != len(b.p.list) || n > b.p.room {
		t.Fatalf("Len: %d of %v", n, b.p)
	}
	if got := b.x.IDs(); !slices.Equal(got, b.p.ids()) {
		t.Fatalf("IDs: %v of %v", got, b.p)
	}
	if got := walked(b.x); !slices.Equal(got, b.p.list) {
		t.Fatalf("All: %v of %v", got, b.p)
	}
	if got := b.x.Count(always[V]); got != len(b.p.list) {
		t.Fatalf("Count of all: %d of %v", got, b.p)
	}
	for _, id := range b.p.ids() {
		asked = append(asked, id-1, id, id+1) // it may wrap: that is a number too
	}
	for _, id := range append(asked, numbers...) {
		want, wantOK := b.p.get(id)
		if v, ok := b.x.Get(id); v != want || ok != wantOK {
			t.Fatalf("Get(%d): %v, %v of %v", id, v, ok, b.p)
		}
	}
}

// holds: just these must be held, by the chapter's words and not by the plain one's alone.
func (b *both[V]) holds(t *testing.T, want ...entry[V]) {
	t.Helper()
	b.tells(t)
	if !slices.Equal(b.p.list, want) {
		t.Fatalf("held are %v, want %v", b.p.list, want)
	}
}

// walked: what All gives.
func walked[V any](x *table.Table[V]) []entry[V] {
	var all []entry[V]
	for id, v := range x.All() {
		all = append(all, entry[V]{id, v})
	}
	return all
}

func always[V any](uint32, V) bool { return true }

// numbers: the edges of the numbers, and some that are alike if one is cut to fewer bits or taken with a sign.
var numbers = []uint32{
	0, 1, 2, 255, 256, 257, 65535, 65536, 65537, 1<<24 + 1, 1<<31 - 1, 1 << 31, 1<<31 + 1, math.MaxUint32 - 1, math.MaxUint32,
}

// some: the first n numbers of the list above, each with a thing of its own.
func some(n int) []entry[int] {
	var all []entry[int]
	for i, id := range numbers[:n] {
		all = append(all, entry[int]{id, 100 + i})
	}
	return all
}

// orders: each order of the numbers 0 to n - 1 goes to use.
func orders(n int, use func(order []int)) {
	var add func(order []int)
	add = func(order []int) {
		if len(order) == n {
			use(order)
		}
		for i := range n {
			if !slices.Contains(order, i) {
				add(append(slices.Clone(order), i))
			}
		}
	}
	add(nil)
}
