package backlog_test

import (
	"math"
	"slices"
	"testing"

	"culvert/api"
	"culvert/backlog"
	"culvert/sentinels"
)

// The chapter's examples, in their order.
func TestP16_1_Examples(t *testing.T) {
	b, err := backlog.New(2)
	if b == nil || err != nil {
		t.Fatalf("New(2): %v, %v", b, err)
	}
	puts := func(id uint32, want error) {
		t.Helper()
		if err := b.Put(id); !sentinels.Just(err, want) {
			t.Errorf("Put(%d): %v, want %v", id, err, want)
		}
	}
	lists := func(want ...uint32) {
		t.Helper()
		if got := b.List(); !slices.Equal(got, want) {
			t.Errorf("List: %v, want %v", got, want)
		}
	}
	if id, ok := b.Take(); id != 0 || ok {
		t.Errorf("Take of none: %d, %v", id, ok)
	}
	puts(7, nil)
	puts(3, nil)
	puts(7, api.ErrTwice)
	puts(9, api.ErrFull)
	lists(7, 3)
	if id, ok := b.Head(); id != 7 || !ok {
		t.Errorf("Head: %d, %v", id, ok)
	}
	if !b.Remove(7) || b.Remove(7) {
		t.Error("Remove(7)")
	}
	puts(7, nil)
	if id, ok := b.Take(); id != 3 || !ok {
		t.Errorf("Take: %d, %v", id, ok)
	}
	lists(7)
	if n := b.Clear(); n != 1 {
		t.Errorf("Clear: %d", n)
	}
	if b.Has(7) {
		t.Error("Has(7)")
	}
}

func TestP16_1_NewTakesAMostFromOneToTheLimit(t *testing.T) {
	for _, most := range []int{
		math.MinInt, math.MinInt + 1, -1 << 32, -1024, -2, -1, 0,
		api.MaxBacklog + 1, api.MaxBacklog + 2, 4096, 1<<31 - 1, 1 << 31, 1 << 32, 1<<32 + 1, 1<<32 + 1024, math.MaxInt,
	} {
		if b, err := backlog.New(most); b != nil || !sentinels.Just(err, api.ErrRange) {
			t.Errorf("New(%d): %v, %v", most, b, err)
		}
	}
	for most := 1; most <= 1024; most++ {
		b, err := backlog.New(most)
		if b == nil || err != nil {
			t.Fatalf("New(%d): %v, %v", most, b, err)
		}
		if id, ok := b.Head(); id != 0 || ok || b.Len() != 0 || len(b.List()) != 0 || b.Has(0) {
			t.Fatalf("New(%d) has something in it", most)
		}
	}
}

// F9: the most is the bound, at each most that may be.
func TestP16_1_AsManyGoInAsTheMost(t *testing.T) {
	for most := 1; most <= api.MaxBacklog; most += 1 + most/8 {
		fullAt(t, most)
	}
	fullAt(t, api.MaxBacklog)
}

// fullAt: so many go in, and no more, and come out in their order.
func fullAt(t *testing.T, most int) {
	t.Helper()
	b := made(t, most)
	for n := range most {
		if b.put(t, uint32(n)*2654435761) != nil { // it wraps: spread over all numbers, and odd, so that none comes twice
			t.Fatalf("Put number %d of %d", n, most)
		}
	}
	full := slices.Clone(b.p.list)
	for _, id := range []uint32{5, 1 << 31, math.MaxUint32} { // none of them is among the spread ones
		if b.put(t, id) != api.ErrFull {
			t.Fatalf("Put of one more than %d", most)
		}
	}
	b.lists(t, full...)
	for n := range most {
		if id, ok := b.take(t); id != full[n] || !ok {
			t.Fatalf("Take number %d of %d: %d, %v", n, most, id, ok)
		}
	}
	b.lists(t)
}

// Each number beside each other one: of the same one ErrTwice, though it is full too.
func TestP16_1_ErrorsComeInTheirOrder(t *testing.T) {
	var none *backlog.Backlog
	for _, first := range numbers {
		for _, second := range numbers {
			if err := none.Put(second); !sentinels.Just(err, api.ErrNil) {
				t.Fatalf("Put on nil: %v", err)
			}
			want := api.ErrFull
			if first == second {
				want = api.ErrTwice
			}
			full := made(t, 1, first)
			if err := full.put(t, second); err != want {
				t.Fatalf("Put(%d) beside %d: %v", second, first, err)
			}
			full.lists(t, first)
			if err := made(t, 2, first).put(t, second); (err == nil) != (first != second) {
				t.Fatalf("Put(%d) beside %d, with room: %v", second, first, err)
			}
		}
	}
}

// Wherever the number stands, it is found; what stands there keeps its place.
func TestP16_1_ANumberThatIsThereGoesInNoSecondTime(t *testing.T) {
	for n := 1; n <= len(numbers); n++ {
		for _, most := range []int{n, n + 1, api.MaxBacklog} {
			b := made(t, most, numbers[:n]...)
			for _, id := range numbers[:n] {
				if b.put(t, id) != api.ErrTwice || b.put(t, id) != api.ErrTwice {
					t.Fatalf("Put(%d) into %v", id, b.p)
				}
				b.lists(t, numbers[:n]...)
			}
		}
	}
}

// What comes out, by whichever call, makes room for one other, and may come again itself: behind all others.
func TestP16_1_RoomComesBack(t *testing.T) {
	for most := 1; most < 7; most++ {
		b := made(t, most, numbers[:most]...)
		for round := range uint32(30) {
			var gone uint32
			if round%2 == 0 {
				gone, _ = b.take(t)
			} else {
				gone = b.p.list[int(round)%most]
				b.remove(t, gone)
			}
			again := append(slices.Clone(b.p.list), gone)
			if b.put(t, gone) != nil || b.put(t, 5000) != api.ErrFull {
				t.Fatalf("Put behind taking out, of %d", most)
			}
			b.lists(t, again...)
			b.remove(t, gone)
			if b.put(t, 1000+round) != nil || b.put(t, gone) != api.ErrFull {
				t.Fatalf("Put of another behind taking out, of %d", most)
			}
			b.tells(t, gone)
		}
	}
}

func TestP16_2_NumbersComeOutAsTheyWerePutIn(t *testing.T) {
	for n := range len(numbers) + 1 {
		for times := range 5 {
			turned(t, times, 20, numbers[:n]...).takes(t, numbers[:n]...)
		}
	}
	all := []uint32{0, 1, 1 << 31, 5, math.MaxUint32}
	orders(len(all), func(order []int) {
		var ids []uint32
		for _, i := range order {
			ids = append(ids, all[i])
		}
		made(t, len(all), ids...).takes(t, ids...)
	})
}

func TestP16_1_TakeOfNone(t *testing.T) {
	b := made(t, 3)
	for range 3 {
		b.takes(t)
		b.put(t, 4)
		b.takes(t, 4)
		b.put(t, 4)
		b.remove(t, 4)
		b.takes(t)
		b.put(t, 4)
		b.clear(t)
		b.takes(t)
	}
}

// 0 is a number like any other: it is not the answer that there is none.
func TestP16_1_NoughtIsANumber(t *testing.T) {
	b := made(t, 2, 0)
	if id, ok := b.x.Head(); id != 0 || !ok {
		t.Errorf("Head: %d, %v", id, ok)
	}
	if !b.x.Has(0) || b.put(t, 0) != api.ErrTwice {
		t.Error("0 is not found")
	}
	b.put(t, 3)
	if b.put(t, 4) != api.ErrFull {
		t.Error("0 takes no room")
	}
	if id, ok := b.take(t); id != 0 || !ok {
		t.Errorf("Take: %d, %v", id, ok)
	}
	b.put(t, 0)
	if !b.remove(t, 0) || b.remove(t, 0) {
		t.Error("Remove(0)")
	}
	b.lists(t, 3)
}

// Each that stands there, wherever: the others keep their order.
func TestP16_1_RemoveTakesOneOut(t *testing.T) {
	for n := 1; n <= 8; n++ {
		for times := range 5 {
			for i, gone := range numbers[:n] {
				b := turned(t, times, 20, numbers[:n]...)
				left := slices.Delete(slices.Clone(numbers[:n]), i, i+1)
				if !b.remove(t, gone) || b.remove(t, gone) {
					t.Fatalf("Remove(%d)", gone)
				}
				b.lists(t, left...)
				b.put(t, 77)
				b.takes(t, append(left, 77)...)
			}
		}
	}
}

func TestP16_1_RemoveOfWhatIsNotThere(t *testing.T) {
	for n := range 8 {
		b := made(t, 8, numbers[:n]...)
		for _, id := range append([]uint32{3, 254, 1 << 30}, numbers[n:]...) {
			if b.remove(t, id) {
				t.Fatalf("Remove(%d) out of %v", id, b.p)
			}
			b.lists(t, numbers[:n]...)
		}
		b.takes(t, numbers[:n]...)
	}
}

// Every order in which five numbers go in, each with every order in which they are removed.
func TestP16_1_NumbersGoInEveryOrder(t *testing.T) {
	all := []uint32{0, 1, 1 << 31, 5, math.MaxUint32}
	orders(len(all), func(in []int) {
		orders(len(all), func(out []int) {
			b := made(t, len(all))
			for _, i := range in {
				b.put(t, all[i])
			}
			for _, i := range out {
				if !b.remove(t, all[i]) || b.x.Has(all[i]) || !slices.Equal(b.x.List(), b.p.list) {
					t.Fatalf("Remove(%d): %v, want %v", all[i], b.x.List(), b.p.list)
				}
			}
			b.lists(t)
		})
	})
}

func TestP16_1_ClearTakesAllOutAndCountsThem(t *testing.T) {
	for n := range len(numbers) + 1 {
		for times := range 4 {
			most := max(n, times, 1)
			b := turned(t, times, most, numbers[:n]...)
			if got := b.clear(t); got != n {
				t.Fatalf("Clear: %d, want %d", got, n)
			}
			b.lists(t)
			if got := b.clear(t); got != 0 {
				t.Fatalf("Clear again: %d", got)
			}
			for _, id := range numbers[:n] {
				if b.remove(t, id) {
					t.Fatalf("Remove(%d) behind Clear", id)
				}
			}
			for i := range most { // as much room as ever, for the same numbers
				if b.put(t, numbers[most-1-i]) != nil {
					t.Fatal("Put behind Clear")
				}
			}
			if b.put(t, 3) != api.ErrFull {
				t.Fatal("the room has grown")
			}
			if got := b.clear(t); got != most {
				t.Fatalf("Clear: %d, want %d", got, most)
			}
		}
	}
}

// Any number may be in it, and none stands for another.
func TestP16_2_HasTellsNumbersApart(t *testing.T) {
	for i, one := range numbers {
		alone := made(t, 1, one)
		rest := made(t, len(numbers), numbers...)
		rest.remove(t, one)
		for k, other := range numbers {
			if alone.x.Has(other) != (i == k) || rest.x.Has(other) != (i != k) {
				t.Fatalf("Has(%d) where %d is alone: %v, where it alone is missing: %v", other, one, alone.x.Has(other), rest.x.Has(other))
			}
		}
	}
}

// Head, Has, Len and List change nothing, however often they are called.
func TestP16_2_AskingChangesNothing(t *testing.T) {
	b := turned(t, 3, 6, numbers[:6]...)
	for range 10 {
		b.lists(t, numbers[:6]...)
	}
	if b.put(t, 3) != api.ErrFull {
		t.Error("asking has made room")
	}
	b.takes(t, numbers[:6]...)
}

func TestR7_ANilBacklogIsOneWithoutNumbers(t *testing.T) {
	var b *backlog.Backlog
	for range 2 {
		for _, id := range numbers {
			if err := b.Put(id); !sentinels.Just(err, api.ErrNil) {
				t.Errorf("Put(%d): %v", id, err)
			}
			if b.Has(id) || b.Remove(id) {
				t.Errorf("Has or Remove of %d", id)
			}
		}
		if id, ok := b.Head(); id != 0 || ok {
			t.Errorf("Head: %d, %v", id, ok)
		}
		if id, ok := b.Take(); id != 0 || ok {
			t.Errorf("Take: %d, %v", id, ok)
		}
		if b.Len() != 0 || len(b.List()) != 0 || b.Clear() != 0 {
			t.Error("Len, List or Clear")
		}
	}
}
