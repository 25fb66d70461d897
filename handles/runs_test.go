package handles_test

import (
	"runtime"
	"slices"
	"sync"
	"testing"

	"culvert/api"
	"culvert/draws"
	"culvert/handles"
)

// inverse: Find(h) is p and true just if Of(p) is h and true, for each of these handles beside each of these places.
func (b *both) inverse(t *testing.T, places []api.Place, upTo int) {
	t.Helper()
	for handle := -1; handle <= upTo; handle++ {
		found, there := b.x.Find(handle)
		for _, p := range places {
			n, bound := b.x.Of(p)
			if (there && found == p) != (bound && n == handle) {
				t.Fatalf("Find(%d): %v, %v, but Of(%v): %d, %v", handle, found, there, p, n, bound)
			}
		}
		if !there {
			continue
		}
		if n, ok := b.x.Of(found); n != handle || !ok {
			t.Fatalf("Find(%d): %v, but Of of that: %d, %v", handle, found, n, ok)
		}
	}
}

// shortCalls: each call of the short runs.
func shortCalls(t *testing.T) []func(b *both) {
	var calls []func(b *both)
	for _, p := range few(5) {
		calls = append(calls, func(b *both) { b.bind(t, p) })
	}
	for handle := range 5 {
		calls = append(calls, func(b *both) { b.drop(t, handle) })
	}
	return calls
}

func TestP22_6_EveryOrderOfFiveCalls(t *testing.T) {
	calls := shortCalls(t)
	places := few(5)
	for n := range 100_000 { // of ten calls each five have a number
		b := made(t)
		for range 5 {
			calls[n%len(calls)](b)
			b.inverse(t, places, b.p.given+1)
			n /= len(calls)
		}
		b.tells(t)
	}
}

// turn: one drawn call; the more of them bind, the more pairs there are.
func (b *both) turn(t *testing.T, row *draws.Draws, binds int, places []api.Place) {
	t.Helper()
	if row.Below(64) < binds {
		b.bind(t, places[row.Below(len(places))])
		return
	}
	handle := row.Below(b.p.given+3) - 1 // one that was given, or is still to come, or 0 or -1
	if n := len(b.p.pairs); n > 0 && row.Below(2) == 0 {
		handle = b.p.pairs[row.Below(n)].handle
	}
	b.drop(t, handle)
}

// R9: two at once, neither of which hears of the other.
func TestP22_6_LongRunsOfTwo(t *testing.T) {
	all := append(few(40), edges()...)
	for seed := range draws.Draws(40) {
		binds := 16 + seed.Below(40)
		from := seed.Below(len(all) - 30)
		places := all[from : from+1+seed.Below(30)]
		two := [2]*both{made(t), made(t)}
		for step := range 300 {
			two[seed.Below(2)].turn(t, &seed, binds, places)
			for _, b := range two {
				b.inverse(t, places, b.p.given+1)
				if step%10 == 0 {
					b.tells(t, places...)
				}
			}
		}
	}
}

// No answer changes another, however often and in whichever order they are asked.
func TestP22_3_AskingChangesNothing(t *testing.T) {
	for n := range 10 {
		b := made(t, few(n)...)
		b.drop(t, n/2)
		want := slices.Clone(b.p.pairs)
		for range 5 {
			b.tells(t, few(n+2)...)
			b.holds(t, want...)
		}
		if got, err := b.bind(t, at(77, 1, 1)); got != n+1 || err != nil {
			t.Fatalf("Bind behind asking: %d, %v", got, err)
		}
	}
}

// spoil writes over all of a list, its spare room too.
func spoil(list []int) {
	list = list[:cap(list)]
	for i := range list {
		list[i] = 99
	}
}

func TestR6_OnAnswersNewMemory(t *testing.T) {
	b := made(t)
	for n := range uint32(60) {
		one, two, other := b.x.On(3, 1), b.x.On(3, 1), b.x.On(4, 1)
		spoil(one)
		spoil(other)
		if !slices.Equal(two, b.p.on(3, 1)) {
			t.Fatalf("On: %v behind writing over another, want %v", two, b.p.on(3, 1))
		}
		b.tells(t)
		spoil(two)
		handle, _ := b.bind(t, at(3, 1, n))
		b.bind(t, at(4, 1, n))
		if n%3 == 2 {
			b.drop(t, handle-2)
		}
		b.tells(t)
	}
}

// What was answered stays as it was, whatever becomes of the Handles.
func TestR6_AListThatWasAnsweredStays(t *testing.T) {
	for n := range uint32(12) {
		b := made(t)
		var want []int
		for id := range n {
			handle, _ := b.bind(t, at(3, 1, id))
			want = append(want, handle)
		}
		list := b.x.On(3, 1)
		for _, handle := range want {
			b.drop(t, handle)
		}
		for id := range uint32(60) {
			b.bind(t, at(3, 1, id))
			b.x.On(3, 1)
		}
		if !slices.Equal(list, want) {
			t.Errorf("the list has become %v, it was %v", list, want)
		}
	}
}

// held: the bytes that are in use.
func held() int {
	runtime.GC()
	runtime.GC()
	var m runtime.MemStats
	runtime.ReadMemStats(&m)
	return int(m.HeapAlloc)
}

// However many handles were given, what is kept goes with the pairs that are there.
func TestP22_4_WhatIsDroppedIsKeptNoMore(t *testing.T) {
	const rounds, stay = 1 << 19, 50
	x := handles.New()
	churn := func(begin int) {
		for n := begin; n < begin+rounds; n++ {
			handle, err := x.Bind(at(n%64, n/64, uint32(n)))
			if handle != n+1 || err != nil {
				t.Fatalf("Bind: %d, %v, want %d", handle, err, n+1)
			}
			if n >= stay && !x.Drop(handle-stay) {
				t.Fatalf("Drop(%d)", handle-stay)
			}
		}
	}
	churn(0)
	before := held()
	churn(rounds)
	if grown := held() - before; grown > 1<<20 {
		t.Errorf("%d handles that are gone keep %d bytes", rounds, grown)
	}
	if x.Len() != stay {
		t.Errorf("Len: %d", x.Len())
	}
	runtime.KeepAlive(x)
}

// Each call but On is of one pair: the whole must not take as long as if each went through all.
func TestP22_5_ManyPairsOneByOne(t *testing.T) {
	const many = 1 << 18 // far more than the streams of the greatest pool
	x := handles.New()
	place := func(n int) api.Place { return at(n%64, 1+n/64%2, uint32(n)) }
	for n := range many {
		if handle, err := x.Bind(place(n)); handle != n+1 || err != nil {
			t.Fatalf("Bind: %d, %v, want %d", handle, err, n+1)
		}
	}
	for n := range many {
		if handle, err := x.Bind(place(n)); handle != 0 || err == nil || x.Len() != many {
			t.Fatalf("Bind again: %d, %v", handle, err)
		}
		if p, ok := x.Find(n + 1); p != place(n) || !ok {
			t.Fatalf("Find(%d): %v, %v", n+1, p, ok)
		}
		if handle, ok := x.Of(place(n)); handle != n+1 || !ok {
			t.Fatalf("Of(%v): %d, %v", place(n), handle, ok)
		}
	}
	for n := 1; n < many; n += 2 {
		if !x.Drop(n) || x.Len() != many-(n+1)/2 {
			t.Fatalf("Drop(%d), then Len %d", n, x.Len())
		}
	}
	seen := 0
	for conn := range 64 {
		for life := 1; life <= 2; life++ {
			list := x.On(conn, life)
			if !slices.IsSorted(list) {
				t.Fatalf("On(%d, %d) doesn't rise", conn, life)
			}
			seen += len(list)
		}
	}
	if seen != many/2 {
		t.Errorf("On tells %d handles in all, want %d", seen, many/2)
	}
}

// R9: what is told hangs on nothing but the calls, not on the order in which a map is gone through.
func TestR9_HandlesAtTheSameTime(t *testing.T) {
	var all sync.WaitGroup
	told := make([][]int, 8)
	for i := range told {
		all.Go(func() {
			x := handles.New()
			row := draws.Draws(i % 2)
			for n := range 2000 {
				handle, _ := x.Bind(few(60)[row.Below(60)])
				x.Drop(n - row.Below(40))
				told[i] = append(told[i], handle, x.Len())
				told[i] = append(told[i], x.On(row.Below(2), row.Below(2))...)
			}
		})
	}
	all.Wait()
	for i, list := range told {
		if len(list) == 0 || !slices.Equal(list, told[i%2]) {
			t.Errorf("number %d tells something else", i)
		}
	}
	if slices.Equal(told[0], told[1]) {
		t.Error("both rows make the same")
	}
}
