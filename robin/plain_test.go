package robin_test

import (
	"slices"
	"testing"

	"culvert/robin"
)

// plain is what the chapter says that a Robin keeps: keys in an order, the first one next.
type plain[K comparable] []K

func (p *plain[K]) add(k K) bool {
	if slices.Contains(*p, k) {
		return false
	}
	*p = append(*p, k)
	return true
}

func (p *plain[K]) remove(k K) bool {
	i := slices.Index(*p, k)
	if i >= 0 {
		*p = slices.Delete(*p, i, i+1)
	}
	return i >= 0
}

func (p *plain[K]) next() (K, bool) {
	if len(*p) == 0 {
		var none K
		return none, false
	}
	k := (*p)[0]
	*p = append((*p)[1:], k)
	return k, true
}

// both is a Robin beside a plain one.
type both[K comparable] struct {
	r *robin.Robin[K]
	p plain[K]
}

// made: a new Robin to which these keys were added, beside a plain one.
func made[K comparable](t *testing.T, keys ...K) *both[K] {
	t.Helper()
	b := &both[K]{r: robin.New[K]()}
	if b.r == nil {
		t.Fatal("New: nil")
	}
	for _, k := range keys {
		b.add(t, k)
	}
	return b
}

func (b *both[K]) add(t *testing.T, k K) bool {
	t.Helper()
	stood := slices.Clone(b.p)
	got, want := b.r.Add(k), b.p.add(k)
	if got != want {
		t.Fatalf("Add(%v) at %v: %v, want %v", k, stood, got, want)
	}
	return want
}

func (b *both[K]) remove(t *testing.T, k K) bool {
	t.Helper()
	stood := slices.Clone(b.p)
	got, want := b.r.Remove(k), b.p.remove(k)
	if got != want {
		t.Fatalf("Remove(%v) at %v: %v, want %v", k, stood, got, want)
	}
	return want
}

func (b *both[K]) next(t *testing.T) (K, bool) {
	t.Helper()
	stood := slices.Clone(b.p)
	k, ok := b.r.Next()
	if want, wantOK := b.p.next(); k != want || ok != wantOK {
		t.Fatalf("Next at %v: %v, %v, want %v, %v", stood, k, ok, want, wantOK)
	}
	return k, ok
}

func (b *both[K]) clear(t *testing.T) {
	t.Helper()
	if got := b.r.Clear(); got != len(b.p) {
		t.Fatalf("Clear at %v: %d, want %d", b.p, got, len(b.p))
	}
	b.p = nil
}

// tells: every answer that changes nothing is the plain one's; the keys that are asked for may be there or not.
func (b *both[K]) tells(t *testing.T, asked ...K) {
	t.Helper()
	if got := b.r.List(); !slices.Equal(got, b.p) {
		t.Fatalf("List: %v, want %v", got, b.p)
	}
	if got := b.r.Len(); got != len(b.p) {
		t.Fatalf("Len: %d of %v", got, b.p)
	}
	for _, k := range b.p {
		if !b.r.Has(k) {
			t.Fatalf("Has(%v) is false at %v", k, b.p)
		}
	}
	for _, k := range asked {
		if got := b.r.Has(k); got != slices.Contains(b.p, k) {
			t.Fatalf("Has(%v): %v at %v", k, got, b.p)
		}
	}
}

// lists: the keys must be these, by the chapter's words and not by the plain one's alone.
func (b *both[K]) lists(t *testing.T, want ...K) {
	t.Helper()
	b.tells(t, want...)
	if !slices.Equal(b.p, want) {
		t.Fatalf("the keys are %v, want %v", b.p, want)
	}
}

// answers: the next keys must be these, by the chapter's words and not by the plain one's alone.
func (b *both[K]) answers(t *testing.T, want ...K) {
	t.Helper()
	for i, k := range want {
		if got, ok := b.next(t); got != k || !ok {
			t.Fatalf("Next number %d: %v, %v, want %v", i, got, ok, want)
		}
		b.tells(t)
	}
}

// goesRound: Nexts answer all keys in their order, and then from the first on again.
func (b *both[K]) goesRound(t *testing.T) {
	t.Helper()
	for range 2*len(b.p) + 1 {
		b.next(t)
	}
	b.tells(t)
}

// turned: the keys 1 to n, in this order, in a ring whose first key was moved on so many times, with others gone out from among them.
func turned(t *testing.T, n, times int) *both[int] {
	t.Helper()
	b := made[int](t)
	for k := range n {
		b.add(t, k+1)
		b.add(t, -k-1)
	}
	for range times {
		b.next(t)
	}
	for k := range n {
		b.remove(t, -k-1)
	}
	for n > 0 && b.p[0] != 1 {
		b.next(t)
	}
	b.tells(t, -1, 0, 1, n, n+1)
	return b
}
