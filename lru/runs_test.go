package lru_test

import (
	"errors"
	"math"
	"runtime"
	"slices"
	"strings"
	"sync"
	"testing"
	"unsafe"
	"weak"

	"culvert/api"
	"culvert/draws"
	"culvert/lru"
)

// shortCalls: each call of the short runs, of a cache with the room 3.
func shortCalls(t *testing.T) []func(b *both[int, int], step int) {
	puts := func(k, weight, until int) func(b *both[int, int], step int) {
		return func(b *both[int, int], step int) { b.put(t, k, step, weight, until) }
	}
	gets := func(k, now int) func(b *both[int, int], step int) {
		return func(b *both[int, int], _ int) { b.get(t, k, now) }
	}
	return []func(b *both[int, int], step int){
		puts(0, 0, 5), puts(0, 2, 1), puts(1, 1, 2), puts(1, 3, 5), puts(2, 1, 1), puts(2, 2, 2),
		gets(0, 1), gets(1, 1), gets(2, 0),
		func(b *both[int, int], _ int) { b.drop(t, 0) },
		func(b *both[int, int], _ int) { b.drop(t, 1) },
		func(b *both[int, int], _ int) { b.expire(t, 1) },
	}
}

func TestP28_1_EveryOrderOfFiveCalls(t *testing.T) {
	calls := shortCalls(t)
	all := 1
	for range 5 {
		all *= len(calls)
	}
	for n := range all {
		b := &both[int, int]{newCache[int, int](t, 3), plain[int, int]{room: 3}}
		for step := range 5 {
			calls[n%len(calls)](b, step)
			b.tells(t, 0, 1, 2, 3)
			n /= len(calls)
		}
		b.goesOut(t, 3, 9)
	}
}

// scene is what the calls of a long run are drawn from.
type scene struct {
	keys, weights, times []int
	puts                 int // of 64 calls
}

// drawnScene: now with small numbers, now with those at the edges.
func drawnScene(d *draws.Draws) (scene, int) {
	s := scene{puts: 16 + d.Below(32)}
	for k := range 1 + d.Below(20) {
		s.keys = append(s.keys, []int{k, k << 32, -k}[d.Below(3)])
	}
	if d.Below(3) == 0 {
		s.weights, s.times = edges, edges
		return s, []int{math.MaxInt, math.MaxInt - 1, 1 << 62, 1 << 32}[d.Below(4)]
	}
	room := d.Below(30)
	for n := range 1 + d.Below(12) {
		s.weights = append(s.weights, n-1, d.Below(room+2))
		s.times = append(s.times, n, d.Below(6)-3)
	}
	return s, room
}

// turn: one drawn call.
func (b *both[K, V]) turn(t *testing.T, d *draws.Draws, s scene, key func(int) K, v V) {
	t.Helper()
	one := func(list []int) int { return list[d.Below(len(list))] }
	k := key(one(s.keys))
	switch n := d.Below(64); {
	case n < s.puts:
		b.put(t, k, v, one(s.weights), one(s.times))
	case n < 56:
		b.get(t, k, one(s.times))
	case n < 61:
		b.drop(t, k)
	default:
		b.expire(t, one(s.times))
	}
}

// R9: two at once, neither of which hears of the other.
func TestP28_1_LongRunsOfTwo(t *testing.T) {
	same := func(k int) int { return k }
	for seed := range draws.Draws(60) {
		s, room := drawnScene(&seed)
		two := [2]*both[int, int]{}
		for i := range two {
			two[i] = made[int, int](t, room)
		}
		for step := range 600 {
			two[seed.Below(2)].turn(t, &seed, s, same, step+1)
			for _, b := range two {
				b.tells(t, s.keys...)
			}
		}
		for _, b := range two {
			b.goesOut(t, 1<<50, 9)
		}
	}
}

// standing: weights and times, by key, as the calls that were made say them, without a look at the order.
type standing map[int][2]int

// sound: P28.2 of what the cache tells by itself.
func sound(t *testing.T, c *lru.Cache[int, int], room int, of standing) []int {
	t.Helper()
	keys := c.Keys()
	sum := uint64(0)
	seen := map[int]int{}
	for _, k := range keys {
		seen[k]++
		if _, until, ok := c.Peek(k); !ok || seen[k] > 1 || until != of[k][1] {
			t.Fatalf("Keys %v, of which %d is not there once", keys, k)
		}
		sum += uint64(of[k][0])
	}
	if c.Len() != len(keys) || uint64(c.Weight()) != sum || sum > uint64(room) {
		t.Fatalf("Len %d, Weight %d of %d in the room %d, keys %v", c.Len(), c.Weight(), sum, room, keys)
	}
	return keys
}

// P28.2 to P28.4 by their own words, of drawn runs; the plain cache isn't asked.
func TestP28_3_WhatGoesIsTheShortestEnd(t *testing.T) {
	for seed := range draws.Draws(60) {
		s, room := drawnScene(&seed)
		one := func(list []int) int { return list[seed.Below(len(list))] }
		c, of := newCache[int, int](t, room), standing{}
		before := sound(t, c, room, of)
		for range 500 {
			k, now := one(s.keys), one(s.times)
			switch n := seed.Below(64); {
			case n < s.puts:
				weight := one(s.weights)
				gone, err := c.Put(k, 1, weight, now)
				if err != nil {
					if after := c.Keys(); !slices.Equal(after, before) || len(gone) != 0 {
						t.Fatalf("a Put that fails made %v of %v", after, before)
					}
					break
				}
				shortest(t, before, k, gone, weight, room, of)
				of[k] = [2]int{weight, now}
				if after := c.Keys(); after[0] != k {
					t.Fatalf("Put(%d), then Keys %v", k, after)
				}
			case n < 56:
				c.Get(k, now)
			default:
				expires(t, c, before, now, of)
			}
			before = sound(t, c, room, of)
		}
	}
}

// shortest: P28.3 for a Put that answered gone, of the keys as they stood.
func shortest(t *testing.T, before []int, k int, gone []int, weight, room int, of standing) {
	t.Helper()
	others := slices.DeleteFunc(slices.Clone(before), func(other int) bool { return other == k })
	end := slices.Clone(gone)
	slices.Reverse(end)
	stay := len(others) - len(end)
	if stay < 0 || !slices.Equal(others[stay:], end) {
		t.Fatalf("%v went, no end of %v", gone, others)
	}
	sum := uint64(weight)
	for _, other := range others[:stay] {
		sum += uint64(of[other][0])
	}
	if sum > uint64(room) {
		t.Fatalf("too little went: %v of %v", gone, others)
	}
	if len(end) > 0 && sum+uint64(of[end[0]][0]) <= uint64(room) {
		t.Fatalf("too much went: %v of %v", gone, others)
	}
}

// expires: P28.4 for one Expire, of the keys as they stood.
func expires(t *testing.T, c *lru.Cache[int, int], before []int, now int, of standing) {
	t.Helper()
	gone := c.Expire(now)
	var old, good []int
	for _, k := range before {
		if now < of[k][1] {
			good = append(good, k)
		} else {
			old = append(old, k)
		}
	}
	if !slices.Equal(gone, old) || !slices.Equal(c.Keys(), good) {
		t.Fatalf("Expire(%d): %v, then Keys %v, want %v and %v", now, gone, c.Keys(), old, good)
	}
}

// Peek, Keys, Len and Weight, between any two calls and as often as ever, change no later answer.
func TestP28_5_AskingChangesNothing(t *testing.T) {
	run := func(seed draws.Draws, asks int) []int {
		s, room := drawnScene(&seed)
		c := newCache[int, int](t, room)
		var told []int
		for step := range 400 {
			for range asks {
				for _, k := range s.keys {
					c.Peek(k)
				}
				c.Keys()
				c.Len()
				c.Weight()
			}
			k := s.keys[seed.Below(len(s.keys))]
			now := s.times[seed.Below(len(s.times))]
			switch n := seed.Below(64); {
			case n < s.puts:
				gone, _ := c.Put(k, step, s.weights[seed.Below(len(s.weights))], now)
				told = append(told, gone...)
			case n < 60:
				v, _ := c.Get(k, now)
				told = append(told, v)
			default:
				told = append(told, c.Expire(now)...)
			}
		}
		return append(told, c.Keys()...)
	}
	for seed := range draws.Draws(40) {
		never := run(seed, 0)
		if len(never) == 0 || !slices.Equal(run(seed, 1), never) || !slices.Equal(run(seed, 3), never) {
			t.Fatalf("the run %d goes on otherwise where it is asked", seed)
		}
	}
}

// alike: one drawn run of a cache of these types, told by the places that keys and things have in their lists.
func alike[K comparable, V any](t *testing.T, seed draws.Draws, keys []K, things [4]V, number func(V) int) []int {
	t.Helper()
	c := newCache[K, V](t, 6)
	var told []int
	tell := func(list []K) {
		for _, k := range list {
			told = append(told, slices.Index(keys, k))
		}
		told = append(told, -1)
	}
	thing := func(v V, ok bool) {
		if ok {
			told = append(told, number(v))
		}
	}
	for range 400 {
		k := keys[seed.Below(4)]
		switch now := seed.Below(4); seed.Below(6) {
		case 0, 1, 2:
			gone, err := c.Put(k, things[seed.Below(4)], seed.Below(9)-1, now)
			if err != nil {
				told = append(told, -2)
			}
			tell(gone)
		case 3:
			thing(c.Get(k, now))
		case 4:
			v, until, ok := c.Peek(k)
			thing(v, ok)
			told = append(told, until)
		default:
			tell(c.Expire(now))
		}
		tell(c.Keys())
		told = append(told, c.Len(), c.Weight())
	}
	return told
}

// P28.5: what keys and things are changes nothing, keys and things exchanged one for one.
func TestP28_5_CachesOfOtherTypesAnswerAlike(t *testing.T) {
	one, two, three := 1, 1, 1
	for seed := range draws.Draws(30) {
		want := alike(t, seed, []int{0, 1, 2, 3}, [4]int{0, 1, 2, 3}, func(v int) int { return v })
		for i, got := range [][]int{
			alike(t, seed, []string{"d", "", "a", "c"}, [4][]byte{{}, {0}, {0, 0}, {0, 0, 0}}, func(v []byte) int { return len(v) }),
			alike(t, seed, []*int{&one, nil, &two, &three}, [4]func() int{
				func() int { return 0 }, func() int { return 1 }, func() int { return 2 }, func() int { return 3 },
			}, func(v func() int) int { return v() }),
			alike(t, seed, []any{3, "3", [1]any{3}, nil}, [4]any{0, 1, 2, 3}, func(v any) int { return v.(int) }),
			alike(t, seed, []float64{math.Inf(1), 0, -1, math.MaxFloat64}, [4]string{"0", "1", "2", "3"}, func(v string) int { return int(v[0] - '0') }),
			alike(t, seed, []api.Place{{Conn: 1}, {Life: 1}, {ID: 1}, {}}, [4]map[int]int{{}, {1: 1}, {1: 1, 2: 2}, {1: 1, 2: 2, 3: 3}}, func(v map[int]int) int { return len(v) }),
			alike(t, seed, [][2]bool{{true, false}, {false, true}, {true, true}, {}}, [4]api.Past{{}, {Read: 1}, {Read: 2}, {Read: 3}}, func(v api.Past) int { return v.Read }),
		} {
			if !slices.Equal(got, want) {
				t.Fatalf("the run %d of the types %d: %v, want %v", seed, i, got, want)
			}
		}
	}
}

// Things are kept as they are handed in: what shares memory with the caller goes on sharing it.
func TestP28_1_ThingsAreKeptAsTheyAreHandedIn(t *testing.T) {
	c := newCache[int, []byte](t, 9)
	b := make([]byte, 2, 7)
	c.Put(1, b, 2, 5)
	got, _ := c.Get(1, 0)
	peeked, _, _ := c.Peek(1)
	if &got[0] != &b[0] || len(got) != 2 || cap(got) != 7 || &peeked[0] != &b[0] || cap(peeked) != 7 {
		t.Error("the thing is another one")
	}
}

// spoil writes over all of a list, its spare room too.
func spoil(list []int) {
	list = list[:cap(list)]
	for i := range list {
		list[i] = 99
	}
}

func TestP28_6_KeysAnswersNewMemory(t *testing.T) {
	for n := range 12 {
		b := made(t, n, row(n, 1, 5)...)
		one, two := b.x.Keys(), b.x.Keys()
		spoil(one)
		if !slices.Equal(two, keysOf(b.p.list)) {
			t.Fatalf("Keys: %v behind writing over another", two)
		}
		spoil(two)
		b.tells(t, 99)
		b.goesOut(t, 77, 7)
	}
}

// What Put and Expire answer is neither what they answered before nor what the cache goes on with.
func TestP28_6_PutAndExpireAnswerNewMemory(t *testing.T) {
	for n := 1; n < 12; n++ {
		b := made(t, n, row(n, 1, 5)...)
		var lists, stood [][]int
		answers := func(list, want []int) {
			t.Helper()
			if !slices.Equal(list, want) {
				t.Fatalf("%v, want %v", list, want)
			}
			lists, stood = append(lists, list), append(stood, want)
		}
		for k := 50; k < 60; k++ {
			weight := 1 + k%n
			gone, _ := b.x.Put(k, 5, weight, k)
			want, _ := b.p.put(k, 5, weight, k)
			answers(gone, want)
			if k%3 == 0 {
				answers(b.x.Expire(k-1), b.p.expire(k-1))
			}
			b.tells(t, 99)
		}
		for i, list := range lists {
			if !slices.Equal(list, stood[i]) {
				t.Fatalf("a list has become %v, it was %v", list, stood[i])
			}
			spoil(list)
			b.tells(t, 99)
		}
		b.goesOut(t, 77, 7)
	}
}

// What was answered stays as it was, whatever becomes of the cache; and writing over it changes no later answer.
func TestP28_6_AListThatWasAnsweredStays(t *testing.T) {
	for n := 1; n < 12; n++ {
		b := made(t, n, row(n, 1, 5)...)
		keys := b.x.Keys()
		gone, _ := b.x.Put(50, 5, n, 9)
		b.p.put(50, 5, n, 9)
		wantKeys, wantGone := slices.Clone(keys), slices.Clone(gone)
		if len(gone) != n {
			t.Fatalf("Put: %v", gone)
		}
		for k := range 60 {
			b.put(t, 100+k, k, k%2, 7)
			b.get(t, 100+k/2, k%9)
			b.expire(t, k%9)
			b.drop(t, 100+k/3)
		}
		if !slices.Equal(keys, wantKeys) || !slices.Equal(gone, wantGone) {
			t.Errorf("the lists have become %v and %v", keys, gone)
		}
		spoil(keys)
		spoil(gone)
		b.tells(t, 99)
	}
}

// P1: of a key that is not equal to itself nothing else is promised; those beside it are kept on, and it takes up nothing.
func TestP1_AKeyThatIsNotEqualToItselfEndsAllCalls(t *testing.T) {
	for n := range 6 {
		b := made[float64, int](t, 4)
		for k := range n {
			b.put(t, float64(k), k, 1, k)
		}
		stood := slices.Clone(b.p.list)
		for range 3 {
			gone, err := b.x.Put(math.NaN(), 1, 2, 9)
			if len(gone) != 0 || err == nil {
				t.Errorf("Put: %v, %v", gone, err)
			}
			if _, ok := b.x.Get(math.NaN(), 0); ok || b.x.Drop(math.NaN()) {
				t.Error("Get or Drop")
			}
			if _, _, ok := b.x.Peek(math.NaN()); ok {
				t.Error("Peek")
			}
			b.holds(t, stood...)
			b.expire(t, -1)
		}
		b.goesOut(t, 77, 7)
	}
}

// P1: of a key that can't be compared nothing else is promised; those that can are kept on.
func TestP1_AKeyThatCannotBeComparedPanicsNowhere(t *testing.T) {
	for n := range 6 {
		b := made[any, int](t, 4)
		for k := range n {
			b.put(t, k, k, 1, k)
		}
		stood := slices.Clone(b.p.list)
		for _, wrong := range []any{
			[]int{}, []int(nil), map[int]int{}, func() {}, [1]any{[]int{1}}, struct{ any }{func() {}},
			math.NaN(), [1]any{math.NaN()}, [2]any{math.NaN(), []int{}}, [2]any{[]int{}, math.NaN()},
		} {
			if gone, err := b.x.Put(wrong, 1, 2, 9); len(gone) != 0 || err == nil {
				t.Errorf("Put(%T): %v, %v", wrong, gone, err)
			}
			for _, weight := range []int{-1, 5} {
				if _, err := b.x.Put(wrong, 1, weight, 9); errors.Is(err, api.ErrFull) != (weight == 5) || errors.Is(err, api.ErrRange) != (weight == -1) {
					t.Errorf("Put(%T) of the weight %d: %v", wrong, weight, err)
				}
			}
			if _, ok := b.x.Get(wrong, 0); ok || b.x.Drop(wrong) {
				t.Errorf("Get or Drop of %T", wrong)
			}
			if v, until, ok := b.x.Peek(wrong); v != 0 || until != 0 || ok {
				t.Errorf("Peek(%T): %d, %d, %v", wrong, v, until, ok)
			}
			b.holds(t, stood...)
		}
		b.goesOut(t, 77, 7)
	}
}

// block is what keys and things of the next tests point to.
type block = [64]byte

// ways in which a thing goes, or doesn't come to stay; the cache has the room 16, and 16 things of the weight 1 in it, of which those with an even number are too old at 5.
var ways = []struct {
	name   string
	leaves func(c *lru.Cache[*block, *block], k *block)
	stay   func(i int) bool
}{
	{"none", func(*lru.Cache[*block, *block], *block) {}, func(int) bool { return true }},
	{"Drop", func(c *lru.Cache[*block, *block], k *block) { c.Drop(k) }, func(int) bool { return false }},
	{"Get", func(c *lru.Cache[*block, *block], k *block) { c.Get(k, 5) }, func(i int) bool { return i%2 == 1 }},
	{"Expire", func(c *lru.Cache[*block, *block], _ *block) { c.Expire(5) }, func(i int) bool { return i%2 == 1 }},
	{"Expire of all", func(c *lru.Cache[*block, *block], _ *block) { c.Expire(9) }, func(int) bool { return false }},
	{"Put that needs half", func(c *lru.Cache[*block, *block], _ *block) { c.Put(nil, nil, 8, 9) }, func(i int) bool { return i >= 8 }},
	{"Put that needs all", func(c *lru.Cache[*block, *block], _ *block) { c.Put(nil, nil, 16, 9) }, func(int) bool { return false }},
	{"Put that fails", func(c *lru.Cache[*block, *block], _ *block) { c.Put(new(block), new(block), 17, 9) }, func(int) bool { return true }},
}

// What went, one way or the other, is not kept alive by the cache; what is there is.
func TestP28_1_WhatWentIsNotKept(t *testing.T) {
	for _, way := range ways {
		c := newCache[*block, *block](t, 16)
		keys, things := fill(c)
		for _, k := range keys {
			if k := k.Value(); k != nil {
				way.leaves(c, k)
			}
		}
		runtime.GC()
		for i := range keys {
			if keys[i].Value() != nil != way.stay(i) || things[i].Value() != nil != way.stay(i) {
				t.Errorf("%s: key %d lives: %v, its thing: %v", way.name, i, keys[i].Value() != nil, things[i].Value() != nil)
			}
		}
		runtime.KeepAlive(c)
	}
}

// A thing that another one takes the place of is not kept; nor is its key, if that is another text that is equal.
func TestP28_1_WhatWasPutOverIsNotKept(t *testing.T) {
	c := newCache[string, *block](t, 16)
	var keys []weak.Pointer[byte]
	var things []weak.Pointer[block]
	for range 9 {
		k, v := strings.Repeat("k", 64), new(block)
		keys, things = append(keys, weak.Make(unsafe.StringData(k))), append(things, weak.Make(v))
		c.Put(k, v, 1, 9)
	}
	runtime.GC()
	for i := range keys {
		if keys[i].Value() != nil != (i == 8) || things[i].Value() != nil != (i == 8) {
			t.Errorf("key %d lives: %v, its thing: %v", i, keys[i].Value() != nil, things[i].Value() != nil)
		}
	}
	runtime.KeepAlive(c)
}

// fill: weak pointers to the keys and things of a cache, which alone has them; the one with the number 0 is the last of the order.
func fill(c *lru.Cache[*block, *block]) (keys, things []weak.Pointer[block]) {
	for i := range 16 {
		k, v := new(block), new(block)
		keys, things = append(keys, weak.Make(k)), append(things, weak.Make(v))
		c.Put(k, v, 1, 5+i%2)
	}
	return keys, things
}

// held: the bytes that are in use.
func held() int {
	runtime.GC()
	runtime.GC()
	var m runtime.MemStats
	runtime.ReadMemStats(&m)
	return int(m.HeapAlloc)
}

// However many things have come and gone, what is kept goes with those that are there.
func TestP28_2_WhatIsKeptDoesNotGrowWithTheCalls(t *testing.T) {
	const rounds, room = 1 << 18, 50
	c := newCache[int, int](t, room)
	churn := func(begin int) {
		for n := begin; n < begin+rounds; n++ {
			switch gone, err := c.Put(n, n, 1, n+20); {
			case err != nil || len(gone) > 1:
				t.Fatalf("Put: %v, %v", gone, err)
			case n%7 == 0:
				c.Drop(n - 3)
			case n%11 == 0:
				c.Get(n-25, n)
			case n%1000 == 0:
				c.Expire(n)
			}
		}
	}
	churn(0)
	before := held()
	churn(rounds)
	if grown := held() - before; grown > 1<<20 {
		t.Errorf("%d things that are gone keep %d bytes", rounds, grown)
	}
	if c.Len() > room {
		t.Errorf("Len: %d", c.Len())
	}
	runtime.KeepAlive(c)
}

// "No memory is laid for it ahead": the greatest room costs no more than the least.
func TestP28_1_AGreatRoomLaysNoMemoryAhead(t *testing.T) {
	var all []*lru.Cache[int, int]
	before := held()
	for range 1000 {
		all = append(all, newCache[int, int](t, math.MaxInt))
	}
	if grown := held() - before; grown > 1<<20 {
		t.Errorf("1000 empty caches take %d bytes", grown)
	}
	runtime.KeepAlive(all)
}

// Each call but Keys and Expire is of one key, or of those that go: the whole must not take as long as if each went through all.
func TestP28_1_ManyThingsOneByOne(t *testing.T) {
	const many = 1 << 18
	c := newCache[int, int](t, many)
	for k := range many {
		if gone, err := c.Put(k, -k, 1, k); len(gone) != 0 || err != nil {
			t.Fatalf("Put(%d): %v, %v", k, gone, err)
		}
	}
	for k := range many {
		if v, until, ok := c.Peek(k); v != -k || until != k || !ok || c.Len() != many || c.Weight() != many {
			t.Fatalf("Peek(%d): %d, %d, %v", k, v, until, ok)
		}
		if v, ok := c.Get(many-1-k, -1); v != k+1-many || !ok || c.Drop(many+k) {
			t.Fatalf("Get(%d): %d, %v", many-1-k, v, ok)
		}
	}
	for k := 1; k < many; k += 2 { // from the middle of the order
		if !c.Drop(k) || c.Weight() != many-(k+1)/2 {
			t.Fatalf("Drop(%d)", k)
		}
	}
	for k := many - 2; k >= many/2; k -= 2 {
		if gone, err := c.Put(-1, 0, many/2+(many-k)/2, 0); !slices.Equal(gone, []int{k}) || err != nil {
			t.Fatalf("Put: %v, %v, want %d", gone, err, k)
		}
	}
	if keys := c.Keys(); len(keys) != many/4+1 || keys[0] != -1 || keys[1] != 0 || keys[many/4] != many/2-2 {
		t.Fatalf("Keys of %d", len(keys))
	}
	if gone := c.Expire(many); len(gone) != many/4+1 || c.Len() != 0 || c.Weight() != 0 {
		t.Fatalf("Expire: %d, then Len %d, Weight %d", len(gone), c.Len(), c.Weight())
	}
}

// R9: what is told hangs on nothing but the calls, not on the order in which a map is gone through.
func TestR9_CachesAtTheSameTime(t *testing.T) {
	var all sync.WaitGroup
	told := make([][]int, 8)
	for i := range told {
		all.Go(func() {
			c, _ := lru.New[int, int](60)
			d := draws.Draws(i % 2)
			for n := range 2000 {
				gone, _ := c.Put(d.Below(80), n, d.Below(5), d.Below(9))
				told[i] = append(told[i], gone...)
				v, _ := c.Get(d.Below(80), d.Below(4))
				told[i] = append(told[i], v, c.Weight())
				if n%20 == 0 {
					told[i] = append(told[i], c.Expire(d.Below(6))...)
				}
				told[i] = append(told[i], c.Keys()...)
			}
		})
	}
	all.Wait()
	for i, list := range told {
		if len(list) == 0 || !slices.Equal(list, told[i%2]) {
			t.Errorf("number %d tells something else", i)
		}
	}
	if slices.Equal(told[0], told[1]) {
		t.Error("both rows make the same")
	}
}
