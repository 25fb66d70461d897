package backlog_test

import (
	"math"
	"slices"
	"sync"
	"testing"

	"culvert/api"
	"culvert/backlog"
	"culvert/draws"
)

// shortCalls: each call of the short runs, which are for two of three numbers.
func shortCalls(t *testing.T) []func(b *both) {
	calls := []func(b *both){
		func(b *both) { b.clear(t) },
		func(b *both) { b.take(t) },
	}
	for _, id := range []uint32{0, 5, math.MaxUint32} {
		calls = append(calls,
			func(b *both) { b.put(t, id) },
			func(b *both) { b.remove(t, id) })
	}
	return calls
}

func TestP16_1_EveryOrderOfSixCalls(t *testing.T) {
	calls := shortCalls(t)
	for n := range 1 << 18 { // of eight calls each six have a number
		b := made(t, 2)
		for range 6 {
			calls[n%len(calls)](b)
			n /= len(calls)
		}
		b.tells(t)
	}
}

// turn: one drawn call; the more puts there are, the more often it is full.
func (b *both) turn(t *testing.T, row *draws.Draws, puts int, some []uint32) {
	t.Helper()
	id := some[row.Below(len(some))]
	switch n := row.Below(64); {
	case n < puts:
		b.put(t, id)
	case n < puts+(64-puts)/2:
		b.take(t)
	case n < 63:
		b.remove(t, id)
	case row.Below(4) == 0:
		b.clear(t)
	}
}

// R9: two at once, neither of which hears of the other.
func TestP16_2_LongRunsOfTwoBacklogs(t *testing.T) {
	var known []uint32
	for k := range uint32(20) {
		known = append(known, k, k<<16, k<<31+k, math.MaxUint32-k)
	}
	for seed := range draws.Draws(60) {
		puts := 16 + seed.Below(40)
		some := known[:1+seed.Below(len(known))]
		two := [2]*both{made(t, 1+seed.Below(12)), made(t, 1+seed.Below(60))}
		for range 600 {
			two[seed.Below(2)].turn(t, &seed, puts, some)
			for _, b := range two {
				b.tells(t, some...)
			}
		}
	}
}

// The greatest one: it fills up, and is full again and again behind each that goes out.
func TestP16_2_LongRunAtTheLimit(t *testing.T) {
	b := made(t, api.MaxBacklog)
	row := draws.Draws(1)
	next, full := uint32(0), 0
	for range 20_000 {
		switch row.Below(8) {
		case 0:
			b.take(t)
		case 1:
			if n := len(b.p.list); n > 0 {
				b.remove(t, b.p.list[row.Below(n)])
			}
		default:
			if b.put(t, next) == api.ErrFull {
				full++
			}
			next += 2
		}
		if n := b.x.Len(); n != len(b.p.list) || n > api.MaxBacklog {
			t.Fatalf("Len: %d of %d", n, len(b.p.list))
		}
	}
	if full == 0 {
		t.Error("it was never full")
	}
	b.tells(t)
	for range api.MaxBacklog + 1 {
		b.take(t)
	}
	b.lists(t)
}

// R4: a Put that is refused changes nothing, how often ever it is made, at each fill.
func TestR4_APutThatFailsChangesNothing(t *testing.T) {
	for n := 1; n <= len(numbers); n++ {
		for times := range 3 {
			b := turned(t, times, max(n, times), numbers[:n]...)
			for len(b.p.list) < b.p.most {
				b.put(t, uint32(700+len(b.p.list)))
			}
			want := slices.Clone(b.p.list)
			for range 3 {
				for _, id := range append([]uint32{3, 4}, numbers...) {
					if b.put(t, id) == nil {
						t.Fatalf("Put(%d) above the most", id)
					}
					b.lists(t, want...)
				}
			}
			first, _ := b.take(t) // what was refused takes no room
			if b.put(t, 3) != nil || b.put(t, first) != api.ErrFull {
				t.Fatal("Put behind those that failed")
			}
			b.takes(t, append(want[1:], 3)...)
		}
	}
}

// F8: a stream that waits and is reset by the other end is gone at once: nothing tells of it, and it is not accepted.
func TestF8_AStreamThatIsResetWhileItWaitsIsGone(t *testing.T) {
	ids := []uint32{2, 4, 6, 8, 10}
	for choice := range 1 << len(ids) {
		b := made(t, len(ids), ids...)
		var left []uint32
		for i, id := range ids {
			if choice>>i&1 == 0 {
				left = append(left, id)
				continue
			}
			if !b.remove(t, id) || b.x.Has(id) || b.x.Remove(id) {
				t.Fatalf("%d is still there", id)
			}
		}
		b.lists(t, left...)
		b.takes(t, left...)
	}
}

// spoil writes over all of a list, its spare room too.
func spoil(list []uint32) {
	list = list[:cap(list)]
	for i := range list {
		list[i] = 99
	}
}

func TestP16_3_ListAnswersNewMemory(t *testing.T) {
	b := made(t, 40)
	for n := range uint32(60) {
		one, two := b.x.List(), b.x.List()
		spoil(one)
		if !slices.Equal(two, b.p.list) {
			t.Fatalf("List: %v behind writing over another, want %v", two, b.p.list)
		}
		b.tells(t, 99)
		spoil(two)
		b.put(t, 100+n*n)
		if n%3 == 2 {
			b.take(t)
		}
		if n%7 == 6 {
			b.remove(t, b.p.list[len(b.p.list)/2])
		}
		b.tells(t, 99)
	}
	b.takes(t, slices.Clone(b.p.list)...)
	spoil(b.x.List())
	b.put(t, 1)
	b.lists(t, 1)
}

// What was answered stays as it was, whatever becomes of the Backlog, and however full it is.
func TestP16_3_AListThatWasAnsweredStays(t *testing.T) {
	for n := range len(numbers) + 1 {
		for times := range 3 {
			b := turned(t, times, 20, numbers[:n]...)
			list := b.x.List()
			b.take(t)
			b.put(t, 77)
			b.remove(t, numbers[n/2])
			b.clear(t)
			for k := range uint32(20) {
				b.put(t, 1000+k)
			}
			if !slices.Equal(list, numbers[:n]) {
				t.Errorf("the list has become %v, it was %v", list, numbers[:n])
			}
		}
	}
}

// R9: what is told hangs on nothing but the calls.
func TestR9_BacklogsAtTheSameTime(t *testing.T) {
	var all sync.WaitGroup
	told := make([][]uint32, 8)
	for i := range told {
		all.Go(func() {
			b, err := backlog.New(30)
			if err != nil {
				return // it is told below
			}
			row := draws.Draws(i % 2)
			for range 2000 {
				b.Put(uint32(row.Below(80)))
				b.Put(uint32(row.Below(80)))
				b.Remove(uint32(row.Below(80)))
				if row.Below(3) == 0 {
					b.Take()
				}
				told[i] = append(told[i], b.List()...)
			}
		})
	}
	all.Wait()
	for i, list := range told {
		if len(list) == 0 || !slices.Equal(list, told[i%2]) {
			t.Errorf("number %d tells something else", i)
		}
	}
	if slices.Equal(told[0], told[1]) {
		t.Error("both rows make the same")
	}
}
