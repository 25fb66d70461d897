package lru_test

import (
	"math"
	"slices"
	"testing"

	"culvert/api"
	"culvert/lru"
	"culvert/sentinels"
)

// The chapter's examples, in their order.
func TestP28_1_Examples(t *testing.T) {
	c, err := lru.New[string, int](10)
	if c == nil || err != nil {
		t.Fatalf("New: %v", err)
	}
	puts := func(k string, v, weight, until int, wantErr error, want ...string) {
		t.Helper()
		if got, err := c.Put(k, v, weight, until); !slices.Equal(got, want) || !sentinels.Just(err, wantErr) {
			t.Errorf("Put(%q, %d, %d, %d): %v, %v, want %v, %v", k, v, weight, until, got, err, want, wantErr)
		}
	}
	gets := func(k string, now, want int, wantOK bool) {
		t.Helper()
		if v, ok := c.Get(k, now); v != want || ok != wantOK {
			t.Errorf("Get(%q, %d): %d, %v, want %d, %v", k, now, v, ok, want, wantOK)
		}
	}
	keys := func(weight int, want ...string) {
		t.Helper()
		if got := c.Keys(); !slices.Equal(got, want) || c.Len() != len(want) || c.Weight() != weight {
			t.Errorf("Keys %v, Len %d, Weight %d, want %v, %d", got, c.Len(), c.Weight(), want, weight)
		}
	}
	puts("a", 1, 4, 100, nil)
	puts("b", 2, 4, 50, nil)
	gets("a", 10, 1, true)
	keys(8, "a", "b")
	puts("c", 3, 5, 100, nil, "b")
	keys(9, "c", "a")
	puts("c", 4, 11, 100, api.ErrFull)
	puts("d", 5, -1, 100, api.ErrRange)
	if v, until, ok := c.Peek("c"); v != 3 || until != 100 || !ok {
		t.Errorf("Peek: %d, %d, %v", v, until, ok)
	}
	puts("c", 6, 1, 20, nil)
	keys(5, "c", "a")
	gets("c", 19, 6, true)
	gets("c", 20, 0, false)
	keys(4, "a")
	puts("e", 7, 0, 0, nil)
	puts("f", 8, 10, 9, nil, "a")
	keys(10, "f", "e")
	if got := c.Expire(9); !slices.Equal(got, []string{"f", "e"}) {
		t.Errorf("Expire: %v", got)
	}
	if c.Drop("f") {
		t.Error("Drop")
	}
	puts("g", 9, 10, 1, nil)
	keys(10, "g")
}

func TestP28_1_New(t *testing.T) {
	for _, room := range edges {
		if room < 0 {
			if c, err := lru.New[string, int](room); c != nil || !sentinels.Just(err, api.ErrRange) {
				t.Errorf("New(%d): %v, %v, want ErrRange", room, c, err)
			}
			continue
		}
		b := made[int, int](t, room)
		for range 2 {
			b.holds(t)
			for _, k := range []int{0, 1, -1, math.MaxInt, math.MinInt} {
				b.tells(t, k)
				b.drop(t, k)
				for _, now := range edges {
					b.get(t, k, now)
					b.expire(t, now)
				}
			}
		}
	}
}

// A cache without room has a place for things without weight, as many as there are.
func TestP28_1_ACacheWithoutRoom(t *testing.T) {
	b := made[int, int](t, 0)
	for k := range 50 {
		for _, weight := range []int{1, 2, 1 << 32, math.MaxInt} {
			if _, err := b.put(t, k, -1, weight, 9); err != api.ErrFull {
				t.Fatalf("Put of the weight %d: %v", weight, err)
			}
		}
		if gone, err := b.put(t, k, k, 0, 9); len(gone) != 0 || err != nil {
			t.Fatalf("Put: %v, %v", gone, err)
		}
		b.tells(t, k-1, k, k+1)
	}
}

// Each weight at each room: refused below 0 and above the room, ErrRange ahead of ErrFull; and what was refused changes nothing.
func TestP28_1_PutRefusesWeights(t *testing.T) {
	for _, room := range edges {
		if room < 0 {
			continue
		}
		kept := ofInts{1, 7, room / 2, 3}
		for _, weight := range append([]int{room - 1, room, room + 1}, edges...) { // one above the greatest int is the least, which is refused too
			for k := 1; k <= 2; k++ {
				b := made(t, room, kept, ofInts{3, 8, 0, 3})
				_, err := b.put(t, k, 9, weight, 5)
				switch {
				case weight < 0 && err != api.ErrRange, weight > room && err != api.ErrFull, weight >= 0 && weight <= room && err != nil:
					t.Fatalf("Put of the weight %d, room %d: %v", weight, room, err)
				}
				if err != nil {
					b.holds(t, kept, ofInts{3, 8, 0, 3})
				}
				b.tells(t, 1, 2, 3)
			}
		}
	}
}

// R4: how often ever a Put is refused, a thing under its key stays, in its place.
func TestR4_APutThatFailsChangesNothing(t *testing.T) {
	for n := range 8 {
		all := row(n, 2, 5)
		b := made(t, 2*n+1, all...)
		for range 3 {
			for k := range n + 3 {
				for _, weight := range []int{-1, math.MinInt, 2*n + 2, math.MaxInt} {
					if gone, err := b.put(t, k, -1, weight, 99); len(gone) != 0 || err == nil {
						t.Fatalf("Put of the weight %d: %v, %v", weight, gone, err)
					}
					b.holds(t, all...)
				}
			}
		}
		b.goesOut(t, 77, 7)
	}
}

// A thing that is put is found, whatever its time, and stands ahead of all others.
func TestP28_1_WhatIsPutIsTheFirst(t *testing.T) {
	for n := range 8 {
		for _, until := range edges {
			all := row(n, 2, 5)
			b := made(t, 2*n+3, all...)
			for _, k := range []int{-7, 0} {
				if gone, err := b.put(t, k, 9, 1, until); len(gone) != 0 || err != nil {
					t.Fatalf("Put: %v, %v", gone, err)
				}
			}
			b.holds(t, append([]ofInts{{0, 9, 1, until}, {-7, 9, 1, until}}, all...)...)
		}
	}
}

// From every place in the order: the elder thing goes with its weight and its time ahead of the look for room, and is told by nobody.
func TestP28_1_AThingThatIsPutAgain(t *testing.T) {
	for n := 1; n < 8; n++ {
		for k := 1; k <= n; k++ {
			for weight := range 4 {
				b := made(t, 2*n, row(n, 2, 5)...)
				rest := slices.DeleteFunc(row(n, 2, 5), func(e ofInts) bool { return e.k == k })
				gone, err := b.put(t, k, -1, weight, 7)
				if n == 1 && weight == 3 {
					if err != api.ErrFull {
						t.Fatalf("Put: %v, want ErrFull", err)
					}
					continue
				}
				if weight < 3 && len(gone) != 0 || weight == 3 && !slices.Equal(gone, []int{rest[n-2].k}) || err != nil {
					t.Fatalf("Put again of %d of %d, weight %d: %v, %v", k, n, weight, gone, err)
				}
				b.holds(t, append([]ofInts{{k, -1, weight, 7}}, rest[:n-1-len(gone)]...)...)
				b.goesOut(t, 77, 7)
			}
		}
	}
}

// A cache that is full to the last weight takes the same key again, of any weight that it has room for.
func TestP28_1_AThingThatIsPutAgainMakesItsOwnRoom(t *testing.T) {
	for _, room := range []int{0, 1, 2, 9, 1 << 32, math.MaxInt - 1, math.MaxInt} {
		b := made(t, room, ofInts{1, 1, room, 5}, ofInts{2, 2, 0, 5})
		for _, weight := range []int{room, room / 2, room, 0, room} {
			if gone, err := b.put(t, 1, weight, weight, 6); len(gone) != 0 || err != nil {
				t.Fatalf("Put: %v, %v", gone, err)
			}
			b.holds(t, ofInts{1, weight, weight, 6}, ofInts{2, 2, 0, 5})
		}
	}
}

// Room is made by the order alone: a thing that is too old goes no sooner, and one that is good no later.
func TestP28_1_RoomIsMadeWithoutALookAtTimes(t *testing.T) {
	all := []ofInts{{1, 1, 2, math.MinInt}, {2, 2, 2, 0}, {3, 3, 2, math.MaxInt}, {4, 4, 2, math.MaxInt}}
	b := made(t, 8, all...)
	if gone, _ := b.put(t, 5, 5, 3, -9); !slices.Equal(gone, []int{4, 3}) {
		t.Fatalf("Put: %v", gone)
	}
	b.holds(t, ofInts{5, 5, 3, -9}, all[0], all[1])
}

// Things without weight go when they stand at the end, and there is no room without what stands ahead of them; not else.
func TestP28_3_ThingsWithoutWeight(t *testing.T) {
	for _, c := range []struct {
		weights []int // in the order
		weight  int
		stay    int
	}{
		{[]int{0, 0, 0}, 5, 3},
		{[]int{5, 0, 0}, 0, 3},
		{[]int{5, 0, 0}, 1, 0},
		{[]int{0, 5, 0}, 1, 1},
		{[]int{0, 0, 5}, 5, 2},
		{[]int{2, 0, 3, 0}, 1, 2},
		{[]int{2, 0, 3, 0}, 3, 2},
		{[]int{2, 0, 3, 0}, 4, 0},
		{[]int{0, 4, 1, 0, 0}, 0, 5},
		{[]int{0, 4, 0, 1}, 1, 3},
		{[]int{0, 4, 0, 1}, 2, 1},
	} {
		var all []ofInts
		for i, weight := range c.weights {
			all = append(all, ofInts{i, i, weight, 9})
		}
		b := made(t, 5, all...)
		gone, err := b.put(t, 99, 9, c.weight, 9)
		want := keysOf(all[c.stay:])
		slices.Reverse(want)
		if !slices.Equal(gone, want) || err != nil {
			t.Errorf("Put of the weight %d to %v: %v, %v, want %v", c.weight, c.weights, gone, err, want)
		}
		b.holds(t, append([]ofInts{{99, 9, c.weight, 9}}, all[:c.stay]...)...)
	}
}

// Each time beside each other one: good just if now is below until, however far they are from each other.
func TestP28_1_GetLooksAtTheTime(t *testing.T) {
	for _, until := range edges {
		for _, now := range append([]int{until, until - 1, until + 1}, edges...) { // those that wrap are times too
			b := made(t, 9, ofInts{1, 1, 2, until}, ofInts{2, 7, 3, until}, ofInts{3, 3, 1, until})
			v, ok := b.get(t, 2, now)
			if good := now < until; ok != good || good && v != 7 || !good && v != 0 {
				t.Fatalf("Get at %d of a thing till %d: %d, %v", now, until, v, ok)
			}
			if ok {
				b.holds(t, ofInts{2, 7, 3, until}, ofInts{1, 1, 2, until}, ofInts{3, 3, 1, until})
			} else {
				b.holds(t, ofInts{1, 1, 2, until}, ofInts{3, 3, 1, until})
				if _, ok := b.get(t, 2, math.MinInt); ok {
					t.Fatal("what was too old is there again at an earlier time")
				}
			}
		}
	}
}

// Whoever is got stands ahead of all others, whose order stays; as often as it is got.
func TestP28_1_GetMakesTheFirst(t *testing.T) {
	for n := 1; n < 8; n++ {
		for one := 1; one <= n; one++ {
			for two := 1; two <= n; two++ {
				b := made(t, n, row(n, 1, 5)...)
				want := row(n, 1, 5)
				for _, k := range []int{one, one, two} {
					if v, ok := b.get(t, k, 4); v != 99+k || !ok {
						t.Fatalf("Get(%d): %d, %v", k, v, ok)
					}
					rest := slices.DeleteFunc(slices.Clone(want), func(e ofInts) bool { return e.k == k })
					want = append([]ofInts{{k, 99 + k, 1, 5}}, rest...)
					b.holds(t, want...)
				}
				b.goesOut(t, 77, 7)
			}
		}
	}
}

func TestP28_1_GetOfWhatIsTooOldLetsItAloneGo(t *testing.T) {
	for n := 1; n < 8; n++ {
		for k := 1; k <= n; k++ {
			b := made(t, 2*n, row(n, 2, 5)...)
			rest := slices.DeleteFunc(row(n, 2, 5), func(e ofInts) bool { return e.k == k })
			for range 2 {
				if v, ok := b.get(t, k, 5); v != 0 || ok {
					t.Fatalf("Get(%d): %d, %v", k, v, ok)
				}
				b.holds(t, rest...)
				b.tells(t, k)
			}
			if gone, err := b.put(t, 88, 8, 2, 9); len(gone) != 0 || err != nil { // into the room that it left
				t.Fatalf("Put: %v, %v", gone, err)
			}
			b.goesOut(t, 77, 7)
		}
	}
}

func TestP28_1_GetAndDropOfWhatIsNotThere(t *testing.T) {
	for n := range 6 {
		all := row(n, 1, 5)
		b := made(t, n, all...)
		for _, k := range []int{0, -1, n + 1, 1 << 32, 1<<32 + 1, math.MaxInt, math.MinInt} {
			for _, now := range edges {
				if v, ok := b.get(t, k, now); v != 0 || ok {
					t.Fatalf("Get(%d): %d, %v", k, v, ok)
				}
			}
			if b.drop(t, k) {
				t.Fatalf("Drop(%d)", k)
			}
			b.tells(t, k)
			b.holds(t, all...)
		}
		b.goesOut(t, 77, 7)
	}
}

// Peek tells what is there, too old or not, and neither lets it go nor moves it.
func TestP28_1_PeekLooksAtNoTimeAndMovesNothing(t *testing.T) {
	var all []ofInts
	for i, until := range edges {
		all = append(all, ofInts{i, -i, 1, until})
	}
	b := made(t, len(all), all...)
	for range 3 {
		for i, until := range edges {
			if v, at, ok := b.x.Peek(i); v != -i || at != until || !ok {
				t.Fatalf("Peek(%d): %d, %d, %v", i, v, at, ok)
			}
			b.holds(t, all...)
		}
		if v, at, ok := b.x.Peek(len(all)); v != 0 || at != 0 || ok {
			t.Fatalf("Peek of none: %d, %d, %v", v, at, ok)
		}
	}
	b.goesOut(t, 77, 7)
}

// Every order in which up to five things are dropped.
func TestP28_1_ThingsGoInEveryOrder(t *testing.T) {
	for n := 1; n < 6; n++ {
		dropOut(t, n, nil)
	}
}

// dropOut: from n things of which these have gone, each that is left goes next.
func dropOut(t *testing.T, n int, gone []int) {
	t.Helper()
	b := made(t, 3*n, row(n, 3, 5)...)
	for _, k := range gone {
		if !b.drop(t, k) || b.drop(t, k) {
			t.Fatalf("Drop(%d)", k)
		}
		b.tells(t, gone...)
	}
	b.holds(t, slices.DeleteFunc(row(n, 3, 5), func(e ofInts) bool { return slices.Contains(gone, e.k) })...)
	left := keysOf(b.p.list)
	if len(gone) > 0 { // as much room as it left
		if out, err := b.put(t, 88, 8, 3*len(gone), 9); len(out) != 0 || err != nil {
			t.Fatalf("Put: %v, %v", out, err)
		}
	}
	b.goesOut(t, 77, 7)
	for _, k := range left {
		dropOut(t, n, append(slices.Clone(gone), k))
	}
}

// Each choice of seven things is too old: those go, told as they stood, and the others stay as they stood.
func TestP28_4_ExpireLetsEachChoiceGo(t *testing.T) {
	for choice := range 1 << 7 {
		all := row(7, 2, 5)
		var old []int
		var good []ofInts
		for i := range all {
			if choice>>i&1 == 1 {
				all[i].until = 4 - i%2
				old = append(old, all[i].k)
			} else {
				good = append(good, all[i])
			}
		}
		b := made(t, 14, all...)
		if gone := b.expire(t, 2); len(gone) != 0 {
			t.Fatalf("Expire(2): %v", gone)
		}
		b.holds(t, all...)
		if gone := b.expire(t, 4); !slices.Equal(gone, old) {
			t.Fatalf("Expire(4): %v, want %v", gone, old)
		}
		b.holds(t, good...)
		b.tells(t, old...)
		if gone := b.expire(t, 4); len(gone) != 0 {
			t.Fatalf("Expire(4) again: %v", gone)
		}
		if gone, err := b.put(t, 88, 8, 2*len(old), 9); len(gone) != 0 || err != nil {
			t.Fatalf("Put: %v, %v", gone, err)
		}
		b.goesOut(t, 77, 7)
	}
}

func TestP28_4_ExpireAtEachTime(t *testing.T) {
	for _, now := range edges {
		var all []ofInts
		for i, until := range edges {
			all = append(all, ofInts{i, i, i, until})
		}
		b := made(t, math.MaxInt, all...)
		var old []int
		for i, until := range edges {
			if !(now < until) {
				old = append(old, i)
			}
		}
		if gone := b.expire(t, now); !slices.Equal(gone, old) {
			t.Fatalf("Expire(%d): %v, want %v", now, gone, old)
		}
		b.tells(t, old...)
		for _, e := range b.p.list {
			if v, ok := b.get(t, e.k, now); v != e.v || !ok {
				t.Fatalf("Get(%d, %d): %d, %v", e.k, now, v, ok)
			}
		}
	}
}

// Expire tells the keys in the order that Gets and Puts have made, and not in the one in which they were first put.
func TestP28_4_ExpireTellsTheOrderOfKeys(t *testing.T) {
	b := made(t, 99, row(6, 1, 5)...)
	b.get(t, 4, 0)
	b.put(t, 2, 2, 3, 5)
	b.get(t, 6, 4)
	b.put(t, 5, 5, 1, 50)
	b.get(t, 3, 5)
	keys := b.x.Keys()
	if !slices.Equal(keys, []int{5, 6, 2, 4, 1}) {
		t.Fatalf("Keys: %v", keys)
	}
	if gone := b.expire(t, 49); !slices.Equal(gone, keys[1:]) {
		t.Fatalf("Expire(49): %v", gone)
	}
	if gone := b.expire(t, 50); !slices.Equal(gone, keys[:1]) {
		t.Fatalf("Expire(50): %v", gone)
	}
	b.holds(t)
}

// No sum of weights wraps: rooms and weights up to the greatest int.
func TestP28_2_TheGreatestWeights(t *testing.T) {
	for _, room := range []int{math.MaxInt, math.MaxInt - 1, math.MaxInt - 7, 1 << 62, 1<<62 + 1} {
		for _, one := range []int{room, room - 1, room/2 + 1, room / 2, 1, 0} {
			for _, two := range []int{room, room - 1, room/2 + 1, room / 2, room - one, room - one + 1, 1, 0} {
				if two > room || two < 0 { // the one behind the greatest int
					continue
				}
				b := made(t, room, ofInts{1, 1, one, 5})
				gone, err := b.put(t, 2, 2, two, 5)
				fits := uint64(one)+uint64(two) <= uint64(room)
				if fits != (len(gone) == 0) || err != nil {
					t.Fatalf("room %d, %d and %d: %v, %v", room, one, two, gone, err)
				}
				b.tells(t, 1, 2)
				b.put(t, 3, 3, one, 5)
				b.tells(t, 1, 2, 3)
				b.put(t, 2, 4, room/2, 5)
				b.tells(t, 1, 2, 3)
				b.goesOut(t, 77, 7)
			}
		}
	}
}

// A key that is asked for is the thing's own, and no other is taken for it.
func TestP28_1_KeysOfEachSort(t *testing.T) {
	ofSort(t, false, true)
	ofSort[uint8](t, 0, 1, 128, 255)
	ofSort[uint32](t, 0, 1, 1<<16, 1<<31, 1<<32-1)
	ofSort(t, edges...)
	ofSort(t, "", "a", "aa", "ab", "\x00", "\xff", "\u00e4")
	ofSort(t, struct{}{})
	ofSort(t, [3]int{}, [3]int{1}, [3]int{0, 0, 1})
	ofSort(t, api.Place{}, api.Place{Conn: 1}, api.Place{Life: 1}, api.Place{ID: 1})
	one, two := 5, 5
	ofSort(t, &one, &two, nil)
	ofSort(t, make(chan int), make(chan int), nil)
	ofSort[any](t, nil, 0, int8(0), "", false, 0.0, api.Place{}, [1]any{}, [1]any{0}, &one)
	ofSort(t, math.Inf(1), math.Inf(-1), 0.0, math.SmallestNonzeroFloat64, math.MaxFloat64)
	ofSort(t, 0i, 1, 1i)
}

// ofSort: these keys, which all differ, stand beside each other and are told apart.
func ofSort[K comparable](t *testing.T, keys ...K) {
	t.Helper()
	b := made[K, int](t, len(keys))
	for i, k := range keys {
		b.tells(t, keys...)
		if gone, err := b.put(t, k, i, 1, i); len(gone) != 0 || err != nil {
			t.Fatalf("Put(%v): %v, %v", k, gone, err)
		}
	}
	b.tells(t, keys...)
	for i, k := range keys {
		if v, ok := b.get(t, k, i-1); v != i || !ok {
			t.Fatalf("Get(%v): %d, %v", k, v, ok)
		}
		b.tells(t, keys...)
	}
	for i, k := range keys {
		if !b.drop(t, k) || b.drop(t, k) {
			t.Fatalf("Drop(%v)", k)
		}
		b.tells(t, keys...)
		b.put(t, k, -i, 1, i)
	}
	b.goesOut(t, keys[0], 7)
}

// The two noughts are equal, so they are one key; it is told as it was handed in with the thing that is there.
func TestP28_1_KeysThatAreEqualAreOneKey(t *testing.T) {
	nought, minus := 0.0, math.Copysign(0, -1)
	for _, first := range []float64{nought, minus} {
		b := made[float64, int](t, 3, entry[float64, int]{first, 1, 1, 5}, entry[float64, int]{4, 4, 1, 5})
		told := func(want float64) {
			t.Helper()
			if got := b.x.Keys()[0]; got != 0 || math.Signbit(got) != math.Signbit(want) {
				t.Errorf("the key is %v, not %v", got, want)
			}
		}
		told(first)
		b.get(t, -first, 4)
		b.peeks(t, -first)
		told(first)
		b.put(t, -first, 2, 2, 5)
		b.holds(t, entry[float64, int]{0, 2, 2, 5}, entry[float64, int]{4, 4, 1, 5})
		told(-first)
		if !b.drop(t, first) || b.drop(t, -first) {
			t.Fatal("Drop")
		}
		b.holds(t, entry[float64, int]{4, 4, 1, 5})
	}
}

// A thing that is the zero value, under a key that is one, is there all the same.
func TestP28_1_TheZeroValues(t *testing.T) {
	b := made(t, 0, entry[string, *int]{})
	if v, until, ok := b.x.Peek(""); v != nil || until != 0 || !ok {
		t.Errorf("Peek: %v, %d, %v", v, until, ok)
	}
	if v, ok := b.get(t, "", -1); v != nil || !ok {
		t.Errorf("Get: %v, %v", v, ok)
	}
	if got := b.x.Keys(); !slices.Equal(got, []string{""}) || b.x.Len() != 1 {
		t.Errorf("Keys: %q", got)
	}
	if gone := b.expire(t, 0); !slices.Equal(gone, []string{""}) || b.drop(t, "") {
		t.Errorf("Expire: %q", gone)
	}
}

func TestR7_ANilCacheIsAnEmptyOneWithoutRoom(t *testing.T) {
	var c *lru.Cache[string, int]
	for range 2 {
		for _, k := range []string{"", "a"} {
			for _, n := range edges {
				if gone, err := c.Put(k, 1, n, 9); len(gone) != 0 || !sentinels.Just(err, api.ErrNil) {
					t.Errorf("Put(%q) of the weight %d: %v, %v, want ErrNil", k, n, gone, err)
				}
				if v, ok := c.Get(k, n); v != 0 || ok {
					t.Errorf("Get(%q, %d): %d, %v", k, n, v, ok)
				}
				if gone := c.Expire(n); len(gone) != 0 {
					t.Errorf("Expire(%d): %v", n, gone)
				}
			}
			if v, until, ok := c.Peek(k); v != 0 || until != 0 || ok || c.Drop(k) {
				t.Errorf("Peek(%q): %d, %d, %v, or Drop", k, v, until, ok)
			}
		}
		if len(c.Keys()) != 0 || c.Len() != 0 || c.Weight() != 0 {
			t.Error("Keys, Len or Weight")
		}
	}
	var wrong *lru.Cache[any, int]
	if _, err := wrong.Put([]int{}, 1, 0, 9); !sentinels.Just(err, api.ErrNil) || wrong.Drop([]int{}) {
		t.Errorf("Put of a list: %v, or Drop", err)
	}
	if _, ok := wrong.Get([]int{}, 0); ok {
		t.Error("Get of a list")
	}
}
