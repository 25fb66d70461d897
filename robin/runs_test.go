package robin_test

import (
	"math"
	"runtime"
	"slices"
	"sync"
	"testing"
	"weak"

	"culvert/draws"
	"culvert/robin"
)

// shortCalls: each call of the short runs.
func shortCalls(t *testing.T) []func(b *both[int]) {
	calls := []func(b *both[int]){
		func(b *both[int]) { b.next(t) },
		func(b *both[int]) { b.clear(t) },
	}
	for k := range 4 {
		calls = append(calls, func(b *both[int]) { b.add(t, k) }, func(b *both[int]) { b.remove(t, k) })
	}
	return calls
}

func TestP12_1_EveryOrderOfFiveCalls(t *testing.T) {
	calls := shortCalls(t)
	for n := range 100_000 { // of ten calls each five have a number
		b := made[int](t)
		for range 5 {
			calls[n%len(calls)](b)
			b.tells(t, 0, 1, 2, 3)
			n /= len(calls)
		}
		b.goesRound(t)
	}
}

// Each three calls at each ring of up to four keys, however it was turned.
func TestP12_1_EveryThreeCallsAtEveryRing(t *testing.T) {
	calls := shortCalls(t)
	for n := range 5 {
		for times := range 2*n + 1 {
			for c := range 1000 {
				b := turned(t, n, times)
				for range 3 {
					calls[c%len(calls)](b)
					c /= len(calls)
				}
				b.tells(t, 0, 1, 2, 3, 4)
				b.goesRound(t)
			}
		}
	}
}

// turn: one drawn call; the more adds there are, the more keys.
func (b *both[K]) turn(t *testing.T, row *draws.Draws, adds int, keys []K) {
	t.Helper()
	k := keys[row.Below(len(keys))]
	switch n := row.Below(64); {
	case n < adds:
		b.add(t, k)
	case n < 48:
		b.next(t)
	case n < 63:
		b.remove(t, k)
	case row.Below(4) == 0:
		b.clear(t)
	}
}

// R9: two at once, neither of which hears of the other.
func TestP12_1_LongRunsOfTwoRobins(t *testing.T) {
	var keys []uint32
	for k := range uint32(20) {
		keys = append(keys, k, k<<16, math.MaxUint32-k)
	}
	for seed := range draws.Draws(30) {
		adds := 8 + seed.Below(32)
		some := keys[:1+seed.Below(len(keys))]
		robins := [2]*both[uint32]{made[uint32](t), made[uint32](t)}
		for range 1500 {
			b := robins[seed.Below(2)]
			b.turn(t, &seed, adds, some)
			b.tells(t, some...)
		}
		robins[0].goesRound(t)
		robins[1].goesRound(t)
	}
}

// event is what P12.4 tells apart: a Next with its answer, or that a key comes or goes; and how many keys are there behind it.
type event struct {
	what string
	key  int
	keys int
}

// history: a run of drawn calls, of which those are told that did something.
func history(row *draws.Draws, adds, keys, calls int) []event {
	r := robin.New[int]()
	var told []event
	for range calls {
		k := row.Below(keys)
		switch n := row.Below(64); {
		case n < adds:
			if r.Add(k) {
				told = append(told, event{"comes", k, r.Len()})
			}
		case n < adds+4:
			if r.Remove(k) {
				told = append(told, event{"goes", k, r.Len()})
			}
		default:
			if got, ok := r.Next(); ok {
				told = append(told, event{"next", got, r.Len()})
			}
		}
	}
	return told
}

// stays: the events during which the key is there all the time, a list for each of its stays.
func stays(told []event, key int) [][]event {
	var all [][]event
	began := -1
	for i, e := range told {
		switch {
		case e.key == key && e.what == "comes":
			began = i + 1
		case e.key == key && e.what == "goes":
			all = append(all, told[began:i])
			began = -1
		}
	}
	if began >= 0 {
		all = append(all, told[began:])
	}
	return all
}

// fair: P12.4's first sentence, for each row of Nexts during one stay of the key.
func fair(t *testing.T, stay []event, key int) {
	t.Helper()
	for i, first := range stay {
		if first.what != "next" {
			continue
		}
		calls, most, answered := 0, 0, false
		for _, e := range stay[i:] {
			most = max(most, e.keys)
			if e.what != "next" {
				continue
			}
			calls++
			answered = answered || e.key == key
			if calls >= most && !answered {
				t.Fatalf("%d is not among the answers of %d Nexts while there were at most %d keys: %v", key, calls, most, stay[i:])
			}
			if answered {
				break
			}
		}
	}
}

// alternates: P12.4's second sentence, for one stay of the key.
func alternates(t *testing.T, stay []event, key int) {
	t.Helper()
	since := map[int]int{} // how often each was answered since the key was, and since it came
	begun := false
	for _, e := range stay {
		switch {
		case e.what == "goes":
			since[e.key] = 0
		case e.what == "next" && e.key == key:
			clear(since)
			begun = true
		case e.what == "next":
			since[e.key]++
			if begun && since[e.key] == 2 {
				t.Fatalf("%d was answered twice between two answers of %d: %v", e.key, key, stay)
			}
		}
	}
}

func TestP12_4_EachHasItsTurn(t *testing.T) {
	for seed := range draws.Draws(60) {
		keys := 1 + seed.Below(12)
		told := history(&seed, 4+seed.Below(20), keys, 400)
		stretches := 0
		for k := range keys {
			for _, stay := range stays(told, k) {
				fair(t, stay, k)
				alternates(t, stay, k)
				stretches++
			}
		}
		if stretches == 0 {
			t.Fatal("no key was ever there")
		}
	}
}

// While others come and go at every step, who stays is not passed over.
func TestP12_4_NewcomersAreServedBehindWhoWaits(t *testing.T) {
	r := robin.New[int]()
	for k := range 3 {
		r.Add(k)
	}
	next := 3
	for round := range 50 {
		for want := range 3 {
			if k, ok := r.Next(); k != want || !ok {
				t.Fatalf("round %d: %d, %v, want %d", round, k, ok, want)
			}
			for range 4 { // they come behind all, and have gone ahead of their turn
				r.Add(next)
				r.Remove(next)
				next++
			}
			r.Add(want) // whoever has had its turn gains nothing by asking again
		}
	}
}

// F5: among streams that stay ready, each n Nexts answer n streams.
func TestF5_AmongStreamsEachHasItsTurn(t *testing.T) {
	for n := 1; n < 40; n++ {
		r := robin.New[uint32]()
		for id := range n {
			r.Add(uint32(2*id + 1))
		}
		var got []uint32
		for range 3*n + 2 {
			id, _ := r.Next()
			got = append(got, id)
		}
		for from := range len(got) - n + 1 {
			some := slices.Clone(got[from : from+n])
			slices.Sort(some)
			if len(slices.Compact(some)) != n {
				t.Fatalf("of %d streams: %v", n, got)
			}
		}
	}
}

// spoil writes over all of a list, its spare room too.
func spoil(list []int) {
	list = list[:cap(list)]
	for i := range list {
		list[i] = 99
	}
}

func TestR6_ListAnswersNewMemory(t *testing.T) {
	b := made[int](t)
	for k := range 20 {
		spoil(b.r.List())
		b.add(t, k)
		b.next(t)
		one, two := b.r.List(), b.r.List()
		spoil(one)
		if !slices.Equal(two, b.p) {
			t.Fatalf("List: %v behind writing over another, want %v", two, b.p)
		}
		b.tells(t, 99)
	}
	b.goesRound(t)
}

// What was answered stays as it was, whatever becomes of the Robin.
func TestR6_AListThatWasAnsweredStays(t *testing.T) {
	b := made(t, 1, 2, 3, 4)
	list := b.r.List()
	b.next(t)
	b.remove(t, 3)
	b.add(t, 5)
	b.clear(t)
	for k := range 30 {
		b.add(t, 100+k)
	}
	if !slices.Equal(list, []int{1, 2, 3, 4}) {
		t.Errorf("the list has become %v", list)
	}
}

func TestR7_ANilRobinIsAnEmptyOne(t *testing.T) {
	var r *robin.Robin[string]
	for range 2 {
		for _, k := range []string{"", "a"} {
			if r.Add(k) || r.Has(k) || r.Remove(k) {
				t.Errorf("Add, Has or Remove of %q", k)
			}
		}
		if k, ok := r.Next(); k != "" || ok {
			t.Errorf("Next: %q, %v", k, ok)
		}
		if r.Len() != 0 || len(r.List()) != 0 || r.Clear() != 0 {
			t.Error("Len, List or Clear")
		}
	}
	var wrong *robin.Robin[any]
	if wrong.Add([]int{}) || wrong.Has([]int{}) || wrong.Remove([]int{}) {
		t.Error("Add, Has or Remove of a list")
	}
}

// P1: of a key that is not equal to itself nothing else is promised.
func TestP1_AKeyThatIsNotEqualToItselfEndsAllCalls(t *testing.T) {
	for turns := range 5 {
		r := robin.New[float64]()
		for range 3 {
			r.Add(math.NaN())
			r.Add(1)
			for range turns {
				r.Next()
			}
			r.Has(math.NaN())
			r.Remove(math.NaN())
			r.List()
			r.Remove(1)
			r.Len()
		}
		r.Clear()
		r.Next()
		r.List()
	}
}

// P1: of a key that can't be compared nothing else is promised; those that can are served on.
func TestP1_AKeyThatCannotBeComparedPanicsNowhere(t *testing.T) {
	for n := range 20 {
		b := made[any](t)
		for k := range n {
			b.add(t, k)
		}
		for _, wrong := range []any{[]int{}, []int(nil), map[int]int{}, func() {}, [1]any{[]int{1}}, struct{ any }{func() {}}} {
			b.r.Remove(wrong)
			b.r.Has(wrong)
			if b.r.Add(wrong) {
				t.Errorf("Add(%T)", wrong)
			}
			b.tells(t)
			b.goesRound(t)
		}
	}
}

// What was taken out, one way or the other, is not kept alive by the Robin.
func TestR6_WhatWentOutIsNotKept(t *testing.T) {
	for gone := range 17 {
		r := robin.New[*[64]byte]()
		left := fill(r)
		for i, k := range r.List() {
			r.Next()
			if i < gone {
				r.Remove(k)
			}
		}
		keeps(t, r, left, func(i int) bool { return i >= gone })
	}
	r := robin.New[*[64]byte]()
	left := fill(r)
	r.Clear()
	keeps(t, r, left, func(int) bool { return false })
}

// fill: weak pointers to the keys of a Robin, which alone has them.
func fill(r *robin.Robin[*[64]byte]) []weak.Pointer[[64]byte] {
	var left []weak.Pointer[[64]byte]
	for range 16 {
		k := new([64]byte)
		left = append(left, weak.Make(k))
		r.Add(k)
	}
	return left
}

func keeps(t *testing.T, r *robin.Robin[*[64]byte], left []weak.Pointer[[64]byte], kept func(int) bool) {
	t.Helper()
	runtime.GC()
	for i, k := range left {
		if lives := k.Value() != nil; lives != kept(i) {
			t.Errorf("key %d lives: %v", i, lives)
		}
	}
	runtime.KeepAlive(r)
}

// F9: whoever adds keys bounds them; the Robin does not. Each call is of one key: the whole must not take as long as if each went through all.
func TestF9_ManyKeysOneByOne(t *testing.T) {
	const many = 1 << 18 // far more than a session with the greatest Config has
	r := robin.New[uint32]()
	for k := range uint32(many) {
		if !r.Add(k) {
			t.Fatalf("Add(%d)", k)
		}
	}
	for k := range uint32(many) {
		if r.Add(k) || !r.Has(k) || r.Has(k+many) || r.Remove(k+many) || r.Len() != many {
			t.Fatalf("of the key %d", k)
		}
		if got, ok := r.Next(); got != k || !ok {
			t.Fatalf("Next: %d, %v, want %d", got, ok, k)
		}
	}
	for k := uint32(1); k < many; k += 2 { // from the middle of the ring
		if !r.Remove(k) || r.Remove(k) {
			t.Fatalf("Remove(%d)", k)
		}
	}
	for k := uint32(0); k < many; k += 2 {
		if got, ok := r.Next(); got != k || !ok {
			t.Fatalf("Next: %d, %v, want %d", got, ok, k)
		}
	}
	if list := r.List(); len(list) != many/2 || list[0] != 0 || list[many/2-1] != many-2 {
		t.Fatalf("List of %d", len(list))
	}
	if n := r.Clear(); n != many/2 || r.Len() != 0 {
		t.Fatalf("Clear: %d, then Len %d", n, r.Len())
	}
}

func TestR9_RobinsAtTheSameTime(t *testing.T) {
	var all sync.WaitGroup
	lists := make([][]int, 8)
	for i := range lists {
		all.Go(func() {
			r, seed := robin.New[int](), draws.Draws(i%2)
			for range 500 {
				r.Add(seed.Below(40))
				r.Next()
				r.Remove(seed.Below(60))
			}
			lists[i] = r.List()
		})
	}
	all.Wait()
	for i, list := range lists {
		if len(list) == 0 || !slices.Equal(list, lists[i%2]) {
			t.Errorf("number %d: %v, not %v", i, list, lists[i%2])
		}
	}
}
