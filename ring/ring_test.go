package ring_test

import (
	"bytes"
	"math"
	"runtime"
	"slices"
	"testing"
	"weak"

	"culvert/api"
	"culvert/draws"
	"culvert/ring"
	"culvert/sentinels"
	"culvert/specimens"
)

// newRing: a ring that must come about.
func newRing[T any](t *testing.T, capacity int) *ring.Ring[T] {
	t.Helper()
	r, err := ring.New[T](capacity)
	if r == nil || err != nil {
		t.Fatalf("New(%d): %v, %v", capacity, r, err)
	}
	return r
}

// tells: every answer of P2.2 is that of a ring with these things.
func tells[T comparable](t *testing.T, r *ring.Ring[T], capacity int, want []T) {
	t.Helper()
	if r.Cap() != capacity || r.Len() != len(want) || r.Free() != capacity-len(want) {
		t.Fatalf("Cap %d, Len %d, Free %d, want %d, %d, %d", r.Cap(), r.Len(), r.Free(), capacity, len(want), capacity-len(want))
	}
	for _, n := range []int{math.MinInt, -1, 0, 1, 2, len(want) / 2, len(want) - 1, len(want), len(want) + 1, math.MaxInt} {
		if got := r.Peek(n); !slices.Equal(got, firstOf(want, n)) {
			t.Fatalf("Peek(%d): %v of %v", n, got, want)
		}
	}
	for i, w := range want {
		if got, ok := r.At(i); got != w || !ok {
			t.Fatalf("At(%d): %v, %v of %v", i, got, ok, want)
		}
	}
	var zero T
	for _, i := range []int{math.MinInt, -len(want), -1, len(want), len(want) + 1, capacity, capacity + 1, math.MaxInt} {
		if i >= 0 && i < len(want) {
			continue
		}
		if got, ok := r.At(i); got != zero || ok {
			t.Fatalf("At(%d): %v, %v of %v", i, got, ok, want)
		}
	}
}

// firstOf: the first n of a list, or all of them.
func firstOf[T any](list []T, n int) []T { return list[:max(0, min(n, len(list)))] }

func TestP2_1_NewTakesCapacitiesInRange(t *testing.T) {
	for _, capacity := range []int{0, 1, 2, 4, 1 << 20, 1<<31 - 2, 1<<31 - 1} {
		tells(t, newRing[byte](t, capacity), capacity, nil)
	}
	for _, capacity := range []int{-1, -2, math.MinInt, 1 << 31, 1<<31 + 1, 1 << 32, math.MaxInt} {
		if r, err := ring.New[byte](capacity); r != nil || !sentinels.Just(err, api.ErrRange) {
			t.Errorf("New(%d): %v, %v", capacity, r, err)
		}
	}
}

// Things of a mebibyte: the greatest ring of them would be two pebibytes.
func TestP2_1_GreatCapacitiesCostNothingAhead(t *testing.T) {
	type block [1 << 20]byte
	r := newRing[block](t, api.MaxRing)
	if n := r.Push(make([]block, 3)); n != 3 || r.Free() != api.MaxRing-3 {
		t.Errorf("Push: %d, Free: %d", n, r.Free())
	}
	if n := len(r.Pop(2)); n != 2 || r.Free() != api.MaxRing-1 {
		t.Errorf("Pop: %d, Free: %d", n, r.Free())
	}
}

// The chapter's examples, in their order.
func TestP2_1_Examples(t *testing.T) {
	r := newRing[byte](t, 4)
	equal(t, "Push(abc)", r.Push([]byte("abc")), 3)
	equal(t, "Free", r.Free(), 1)
	equal(t, "Push(def)", r.Push([]byte("def")), 1)
	equal(t, "Peek(9)", string(r.Peek(9)), "abcd")
	equal(t, "Pop(2)", string(r.Pop(2)), "ab")
	equal(t, "Push(xyz)", r.Push([]byte("xyz")), 2)
	v, ok := r.At(3)
	equal(t, "At(3)", v, 'y')
	equal(t, "At(3)", ok, true)
	tells(t, r, 4, []byte("cdxy"))
	equal(t, "Pop(0)", len(r.Pop(0)), 0)
	equal(t, "Pop(-1)", len(r.Pop(-1)), 0)
	equal(t, "Drop(3)", r.Drop(3), 3)
	equal(t, "Pop(9)", string(r.Pop(9)), "y")
	equal(t, "Len", r.Len(), 0)
	equal(t, "Clear", r.Clear(), 0)

	equal(t, "Push, without room", newRing[byte](t, 0).Push([]byte("a")), 0)
	great := newRing[byte](t, 2147483647)
	equal(t, "Push(a)", great.Push([]byte("a")), 1)
	equal(t, "Free", great.Free(), 2147483646)
}

func equal[T comparable](t *testing.T, call string, got, want T) {
	t.Helper()
	if got != want {
		t.Errorf("%s: %v, want %v", call, got, want)
	}
}

func TestP2_1_PushTakesTheFirstOnes(t *testing.T) {
	for capacity := range 6 {
		for before := range capacity + 1 {
			for size := range 9 {
				r := newRing[int](t, capacity)
				held := []int{10, 11, 12, 13, 14, 15}[:before]
				equal(t, "Push", r.Push(held), before)
				items := []int{1, 2, 3, 4, 5, 6, 7, 8, 9}[:size]
				took := min(size, capacity-before)
				equal(t, "Push", r.Push(items), took)
				tells(t, r, capacity, append(slices.Clone(held), items[:took]...))
			}
		}
	}
	r := newRing[int](t, 3)
	equal(t, "Push(nil)", r.Push(nil), 0)
	tells(t, r, 3, nil)
}

// Pop, Peek and Drop of every amount, from rings that begin at every place of their room.
func TestP2_1_PopAndDropLetTheFirstOnesGo(t *testing.T) {
	for _, n := range []int{math.MinInt, -7, -1, 0, 1, 2, 3, 4, 5, 6, 1 << 31, math.MaxInt} {
		for turned := range 6 {
			for size := range 6 {
				want := []int{1, 2, 3, 4, 5}[:size]
				gone := firstOf(want, n)
				popped, dropped := turnedRing(t, turned, want), turnedRing(t, turned, want)
				if got := popped.Pop(n); !slices.Equal(got, gone) {
					t.Fatalf("Pop(%d) of %v: %v", n, want, got)
				}
				equal(t, "Drop", dropped.Drop(n), len(gone))
				tells(t, popped, 5, want[len(gone):])
				tells(t, dropped, 5, want[len(gone):])
			}
		}
	}
}

// turnedRing: a ring of the capacity 5 with these things; where in its room the first one lies hangs on turned.
func turnedRing(t *testing.T, turned int, things []int) *ring.Ring[int] {
	t.Helper()
	r := newRing[int](t, 5)
	r.Push([]int{-1, -2, -3, -4, -5})
	for range turned {
		r.Drop(1)
		r.Push([]int{-6})
	}
	for _, thing := range things {
		r.Drop(1)
		r.Push([]int{thing})
	}
	r.Drop(5 - len(things))
	tells(t, r, 5, things)
	return r
}

func TestP2_1_ClearLeavesTheCapacity(t *testing.T) {
	for size := range 6 {
		for turned := range 6 {
			r := turnedRing(t, turned, []int{1, 2, 3, 4, 5}[:size])
			equal(t, "Clear", r.Clear(), size)
			tells(t, r, 5, nil)
			equal(t, "Clear", r.Clear(), 0)
			equal(t, "Push", r.Push([]int{7, 8, 9, 10, 11, 12}), 5)
			tells(t, r, 5, []int{7, 8, 9, 10, 11})
		}
	}
}

func TestP2_1_ANilRingIsOfCapacityNought(t *testing.T) {
	var r *ring.Ring[string]
	for _, n := range []int{math.MinInt, -1, 0, 1, math.MaxInt} {
		equal(t, "Push", r.Push([]string{"a"}), 0)
		equal(t, "Pop", len(r.Pop(n)), 0)
		equal(t, "Drop", r.Drop(n), 0)
		equal(t, "Clear", r.Clear(), 0)
		tells(t, r, 0, nil)
	}
}

// Long runs of all calls, held against a plain list; amounts up to twice the capacity, so that rings are often full and often empty.
func TestP2_2_AndP2_3_AgainstAPlainList(t *testing.T) {
	for _, capacity := range []int{0, 1, 2, 3, 4, 5, 7, 8, 16, 33, 100} {
		for seed := range 4 {
			d := draws.Draws(seed*1000 + capacity)
			againstList(t, capacity, &d)
		}
	}
}

func againstList(t *testing.T, capacity int, d *draws.Draws) {
	t.Helper()
	r := newRing[int](t, capacity)
	var want []int
	next := 1
	for range 600 {
		n := d.Below(2*capacity+3) - 1
		switch gone := firstOf(want, n); d.Below(7) {
		case 0, 1, 2:
			var items []int
			for i := range max(0, n) {
				items = append(items, next+i)
			}
			took := min(len(items), capacity-len(want))
			equal(t, "Push", r.Push(items), took)
			want = append(want, items[:took]...)
			next += took
		case 3, 4:
			if got := r.Pop(n); !slices.Equal(got, gone) {
				t.Fatalf("Pop(%d): %v of %v", n, got, want)
			}
			want = want[len(gone):]
		case 5:
			equal(t, "Drop", r.Drop(n), len(gone))
			want = want[len(gone):]
		case 6:
			if d.Below(5) == 0 {
				equal(t, "Clear", r.Clear(), len(want))
				want = nil
			}
		}
		tells(t, r, capacity, want)
	}
}

// A ring grows and shrinks by much, by little and back again; nothing is lost on the way.
func TestP2_3_ManyThingsKeepTheirOrder(t *testing.T) {
	r := newRing[int](t, api.MaxRing)
	in, out := 0, 0
	for _, step := range []int{1, 1000, -900, 37, -138, 5, -5, 100000, -99990, 3, -13, 64, -1, 1, -64, 70000, -35000, 200, -17600, 9, -17609} {
		if step > 0 {
			items := make([]int, step)
			for i := range items {
				items[i] = in + i
			}
			equal(t, "Push", r.Push(items), step)
			in += step
		} else {
			for _, v := range r.Pop(-step) {
				if v != out {
					t.Fatalf("%d came out, want %d", v, out)
				}
				out++
			}
		}
		equal(t, "Len", r.Len(), in-out)
		for _, i := range []int{0, r.Len() / 2, r.Len() - 1} {
			if v, ok := r.At(i); ok != (i >= 0 && i < r.Len()) || ok && v != out+i {
				t.Fatalf("At(%d): %d, %v, want %d", i, v, ok, out+i)
			}
		}
	}
	equal(t, "all out", out, in)
}

// Each push and pop is of one thing: the whole must not take as long as if each copied all things.
func TestP2_3_OneByOne(t *testing.T) {
	const many = 1 << 18
	r := newRing[int](t, many)
	for i := range many {
		equal(t, "Push", r.Push([]int{i}), 1)
	}
	equal(t, "Push, when full", r.Push([]int{-1}), 0)
	for i := range many {
		if got := r.Pop(1); len(got) != 1 || got[0] != i {
			t.Fatalf("Pop: %v, want %d", got, i)
		}
	}
	equal(t, "Len", r.Len(), 0)
}

func TestP2_3_OtherThings(t *testing.T) {
	words := newRing[string](t, 3)
	words.Push([]string{"", "b", "", "d"})
	tells(t, words, 3, []string{"", "b", ""})

	nothings := newRing[struct{}](t, api.MaxRing)
	equal(t, "Push", nothings.Push(make([]struct{}, 5)), 5)
	tells(t, nothings, api.MaxRing, make([]struct{}, 5))
	equal(t, "Pop", len(nothings.Pop(3)), 3)
	tells(t, nothings, api.MaxRing, make([]struct{}, 2))
}

// What a thing points to is the same before and behind.
func TestP2_3_ThingsAreKeptAsTheyAre(t *testing.T) {
	a, b := new(int), new(int)
	pointers := newRing[*int](t, 2)
	pointers.Push([]*int{a, b})
	tells(t, pointers, 2, []*int{a, b})

	list := []byte("ab")
	lists := newRing[[]byte](t, 1)
	lists.Push([][]byte{list})
	list[0] = 'z'
	equal(t, "Pop", string(lists.Pop(1)[0]), "zb")
}

func TestP2_4_WhatIsPushedIsNeitherChangedNorKept(t *testing.T) {
	for _, size := range []int{0, 1, 3, 4, 6} {
		r := newRing[byte](t, 4)
		for range 5 {
			whole := []byte("abcdefghij")
			took := r.Push(whole[:size])
			equal(t, "the list behind Push", string(whole), "abcdefghij")
			specimens.Spoil(whole)
			tells(t, r, 4, []byte("abcdefghij")[:took])
			equal(t, "Pop", string(r.Pop(9)), "abcdefghij"[:took])
			equal(t, "the list behind Pop", whole[0], 'a'^0xff)
		}
	}
}

func TestP2_4_WhatIsAnsweredIsNewMemory(t *testing.T) {
	for turned := range 8 {
		for n := range 9 {
			r := newRing[byte](t, 8)
			r.Push([]byte("12345678"))
			r.Drop(turned)
			r.Push([]byte("abcdefgh"))
			want := []byte("12345678abcdefgh")[turned : turned+8]
			peeked, again := r.Peek(n), r.Peek(n)
			specimens.Spoil(peeked)
			if !bytes.Equal(again, want[:n]) {
				t.Fatalf("one Peek(%d) is seen in another: %q", n, again)
			}
			tells(t, r, 8, want)
			popped := r.Pop(n)
			r.Push([]byte("ABCDEFGH"))
			if !bytes.Equal(popped, want[:n]) {
				t.Fatalf("a Push is seen in what Pop(%d) has answered: %q", n, popped)
			}
			specimens.Spoil(popped)
			tells(t, r, 8, append(slices.Clone(want[n:]), "ABCDEFGH"[:n]...))
		}
	}
}

// What was let go is not kept alive, whether the room stays as it is or shrinks.
func TestP2_4_WhatWentOutIsNotKept(t *testing.T) {
	for _, n := range []int{1, 10, 11, 12, 15, 16} {
		r := newRing[*[64]byte](t, 16)
		left := fill(r)
		r.Drop(n)
		runtime.GC()
		for i, p := range left {
			if lives := p.Value() != nil; lives != (i >= n) {
				t.Errorf("behind Drop(%d), thing %d: lives %v", n, i, lives)
			}
		}
		runtime.KeepAlive(r)
	}
}

// fill: weak pointers to the things of a full ring whose room doesn't begin with the first; the ring alone has them.
func fill(r *ring.Ring[*[64]byte]) []weak.Pointer[[64]byte] {
	r.Push(make([]*[64]byte, 16))
	r.Drop(6)
	r.Push(make([]*[64]byte, 6))
	var left []weak.Pointer[[64]byte]
	for range 16 {
		p := new([64]byte)
		left = append(left, weak.Make(p))
		r.Drop(1)
		r.Push([]*[64]byte{p})
	}
	return left
}
