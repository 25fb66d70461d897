package lru_test

import (
	"math"
	"slices"
	"testing"

	"culvert/api"
	"culvert/lru"
	"culvert/sentinels"
)

// entry is a key with its thing.
type entry[K comparable, V comparable] struct {
	k             K
	v             V
	weight, until int
}

// plain is what the chapter says that a Cache keeps: a room, and things, here in the order of their keys, the first one first.
type plain[K comparable, V comparable] struct {
	room int
	list []entry[K, V]
}

func (p *plain[K, V]) place(k K) int {
	return slices.IndexFunc(p.list, func(e entry[K, V]) bool { return e.k == k })
}

func (p *plain[K, V]) drop(k K) bool {
	i := p.place(k)
	if i >= 0 {
		p.list = slices.Delete(p.list, i, i+1)
	}
	return i >= 0
}

func (p *plain[K, V]) put(k K, v V, weight, until int) ([]K, error) {
	switch {
	case weight < 0:
		return nil, api.ErrRange
	case weight > p.room:
		return nil, api.ErrFull
	}
	p.drop(k)
	stay := len(p.list)
	for weigh(p.list[:stay])+uint64(weight) > uint64(p.room) {
		stay--
	}
	gone := keysOf(p.list[stay:])
	slices.Reverse(gone)
	p.list = slices.Insert(p.list[:stay], 0, entry[K, V]{k, v, weight, until})
	return gone, nil
}

func (p *plain[K, V]) get(k K, now int) (v V, ok bool) {
	i := p.place(k)
	if i < 0 {
		return v, false
	}
	e := p.list[i]
	p.drop(k)
	if now < e.until {
		p.list = slices.Insert(p.list, 0, e)
		return e.v, true
	}
	return v, false
}

func (p *plain[K, V]) peek(k K) (v V, until int, ok bool) {
	if i := p.place(k); i >= 0 {
		return p.list[i].v, p.list[i].until, true
	}
	return v, 0, false
}

func (p *plain[K, V]) expire(now int) []K {
	var gone []K
	for _, e := range slices.Clone(p.list) {
		if !(now < e.until) {
			gone = append(gone, e.k)
			p.drop(e.k)
		}
	}
	return gone
}

// weigh: what they weigh together; the sum of two rooms has a place in it.
func weigh[K comparable, V comparable](list []entry[K, V]) uint64 {
	sum := uint64(0)
	for _, e := range list {
		sum += uint64(e.weight)
	}
	return sum
}

func keysOf[K comparable, V comparable](list []entry[K, V]) []K {
	var keys []K
	for _, e := range list {
		keys = append(keys, e.k)
	}
	return keys
}

// both is a Cache beside a plain one.
type both[K comparable, V comparable] struct {
	x *lru.Cache[K, V]
	p plain[K, V]
}

// newCache: one that must come about.
func newCache[K comparable, V any](t *testing.T, room int) *lru.Cache[K, V] {
	t.Helper()
	x, err := lru.New[K, V](room)
	if x == nil || err != nil {
		t.Fatalf("New(%d): %v, %v", room, x, err)
	}
	return x
}

// made: a new Cache into which these were put, the last of them first, so that they stand in the order in which they are handed in.
func made[K comparable, V comparable](t *testing.T, room int, entries ...entry[K, V]) *both[K, V] {
	t.Helper()
	b := &both[K, V]{newCache[K, V](t, room), plain[K, V]{room: room}}
	for _, e := range slices.Backward(entries) {
		if gone, err := b.put(t, e.k, e.v, e.weight, e.until); len(gone) != 0 || err != nil {
			t.Fatalf("Put(%v): %v, %v", e, gone, err)
		}
	}
	b.holds(t, entries...)
	return b
}

func (b *both[K, V]) put(t *testing.T, k K, v V, weight, until int) ([]K, error) {
	t.Helper()
	stood := slices.Clone(b.p.list)
	want, wantErr := b.p.put(k, v, weight, until)
	if got, err := b.x.Put(k, v, weight, until); !slices.Equal(got, want) || !sentinels.Just(err, wantErr) {
		t.Fatalf("Put(%v, %v, %d, %d) at %v: %v, %v, want %v, %v", k, v, weight, until, stood, got, err, want, wantErr)
	}
	return want, wantErr
}

func (b *both[K, V]) get(t *testing.T, k K, now int) (V, bool) {
	t.Helper()
	stood := slices.Clone(b.p.list)
	want, wantOK := b.p.get(k, now)
	if got, ok := b.x.Get(k, now); got != want || ok != wantOK {
		t.Fatalf("Get(%v, %d) at %v: %v, %v, want %v, %v", k, now, stood, got, ok, want, wantOK)
	}
	return want, wantOK
}

func (b *both[K, V]) drop(t *testing.T, k K) bool {
	t.Helper()
	stood := slices.Clone(b.p.list)
	want := b.p.drop(k)
	if got := b.x.Drop(k); got != want {
		t.Fatalf("Drop(%v) at %v: %v, want %v", k, stood, got, want)
	}
	return want
}

func (b *both[K, V]) expire(t *testing.T, now int) []K {
	t.Helper()
	stood := slices.Clone(b.p.list)
	want := b.p.expire(now)
	if got := b.x.Expire(now); !slices.Equal(got, want) {
		t.Fatalf("Expire(%d) at %v: %v, want %v", now, stood, got, want)
	}
	return want
}

// tells: every answer that changes nothing is the plain one's; the keys that are asked for may be there or not.
func (b *both[K, V]) tells(t *testing.T, asked ...K) {
	t.Helper()
	keys := keysOf(b.p.list)
	if got := b.x.Keys(); !slices.Equal(got, keys) {
		t.Fatalf("Keys: %v, want %v", got, keys)
	}
	if got := b.x.Len(); got != len(keys) {
		t.Fatalf("Len: %d of %v", got, keys)
	}
	if got := b.x.Weight(); got < 0 || uint64(got) != weigh(b.p.list) {
		t.Fatalf("Weight: %d of %v", got, b.p.list)
	}
	for _, some := range [][]K{keys, asked} {
		for _, k := range some {
			b.peeks(t, k)
		}
	}
}

func (b *both[K, V]) peeks(t *testing.T, k K) {
	t.Helper()
	want, wantUntil, wantOK := b.p.peek(k)
	if got, until, ok := b.x.Peek(k); got != want || until != wantUntil || ok != wantOK {
		t.Fatalf("Peek(%v) of %v: %v, %d, %v, want %v, %d, %v", k, b.p.list, got, until, ok, want, wantUntil, wantOK)
	}
}

// holds: just these must be kept, in this order, by the chapter's words and not by the plain one's alone.
func (b *both[K, V]) holds(t *testing.T, want ...entry[K, V]) {
	t.Helper()
	b.tells(t)
	if !slices.Equal(b.p.list, want) {
		t.Fatalf("kept is %v, want %v", b.p.list, want)
	}
}

// goesOut: the whole order is pushed out by a thing that needs all the room, and told from the last on; that thing alone stays.
func (b *both[K, V]) goesOut(t *testing.T, k K, v V) {
	t.Helper()
	b.put(t, k, v, b.p.room, math.MaxInt)
	b.tells(t)
}

// ofInts is an entry in most of these tests.
type ofInts = entry[int, int]

// row: n things, 1 to n, of one weight each, good up to until.
func row(n, weight, until int) []ofInts {
	var all []ofInts
	for k := range n {
		all = append(all, ofInts{k + 1, 100 + k, weight, until})
	}
	return all
}

// edges are numbers around which an int changes, or one of fewer bits would.
var edges = []int{
	math.MinInt, math.MinInt + 1, -1 << 40, -1<<32 - 1, -1 << 32, -1 << 31, -2, -1, 0, 1, 2, 3,
	1<<31 - 1, 1 << 31, 1<<32 - 1, 1 << 32, 1<<32 + 1, 1 << 40, 1 << 62, math.MaxInt - 1, math.MaxInt,
}
