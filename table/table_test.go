package table_test

import (
	"math"
	"slices"
	"testing"

	"culvert/api"
	"culvert/sentinels"
	"culvert/table"
)

// The chapter's examples, in their order.
func TestP15_1_Examples(t *testing.T) {
	x, err := table.New[string](2)
	if err != nil {
		t.Fatal(err)
	}
	puts := func(id uint32, v string, want error) {
		t.Helper()
		if err := x.Put(id, v); !sentinels.Just(err, want) {
			t.Errorf("Put(%d, %q): %v, want %v", id, v, err, want)
		}
	}
	answers := func(call string, v string, ok bool, want string, wantOK bool) {
		t.Helper()
		if v != want || ok != wantOK {
			t.Errorf("%s: %q, %v, want %q, %v", call, v, ok, want, wantOK)
		}
	}
	lists := func(want ...uint32) {
		t.Helper()
		if got := x.IDs(); !slices.Equal(got, want) {
			t.Errorf("IDs: %v, want %v", got, want)
		}
	}
	puts(7, "a", nil)
	puts(7, "b", api.ErrTwice)
	puts(3, "c", nil)
	puts(3, "d", api.ErrTwice)
	puts(5, "d", api.ErrFull)
	lists(3, 7)
	v, ok := x.Get(7)
	answers("Get(7)", v, ok, "a", true)
	v, ok = x.Get(8)
	answers("Get(8)", v, ok, "", false)
	if n := x.Count(func(id uint32, _ string) bool { return id > 3 }); n != 1 {
		t.Errorf("Count: %d", n)
	}
	v, ok = x.Drop(3)
	answers("Drop(3)", v, ok, "c", true)
	v, ok = x.Drop(3)
	answers("Drop(3) again", v, ok, "", false)
	puts(0, "", nil)
	lists(0, 7)
	if n := x.Clear(); n != 2 {
		t.Errorf("Clear: %d", n)
	}
	if y, err := table.New[string](-1); y != nil || !sentinels.Just(err, api.ErrRange) {
		t.Errorf("New(-1): %v, %v", y, err)
	}
}

func TestP15_1_NewTakesARoomFromNoughtOn(t *testing.T) {
	for _, most := range []int{math.MinInt, math.MinInt + 1, -1 << 32, -1 << 31, -2, -1} {
		if x, err := table.New[int](most); x != nil || !sentinels.Just(err, api.ErrRange) {
			t.Errorf("New(%d): %v, %v", most, x, err)
		}
	}
	for _, most := range []int{0, 1, 2, 1<<31 - 1, 1 << 31, 1 << 32, 1<<32 + 1, math.MaxInt} {
		b := made[int](t, most)
		b.holds(t)
		b.drop(t, 0)
		b.clear(t)
		b.put(t, 0, 1)
		b.tells(t)
	}
}

// Things of a mebibyte: all that the room is for would go into no machine.
func TestP15_1_AGreatRoomCostsNothingAhead(t *testing.T) {
	type block [1 << 20]byte
	x, err := table.New[block](math.MaxInt)
	if err != nil {
		t.Fatal(err)
	}
	for i := range uint32(4) {
		if err := x.Put(i, block{byte(i)}); err != nil {
			t.Fatalf("Put(%d): %v", i, err)
		}
	}
	for i := range uint32(4) {
		if v, ok := x.Drop(i); v[0] != byte(i) || !ok {
			t.Fatalf("Drop(%d): %d, %v", i, v[0], ok)
		}
	}
}

func TestP15_2_AsManyGoInAsThereIsRoomFor(t *testing.T) {
	for room := range 20 {
		b := made[int](t, room)
		for n := range uint32(room) {
			if b.put(t, n*n, int(n)) != nil {
				t.Fatalf("Put number %d of %d", n, room)
			}
		}
		full := walked(b.x)
		for _, id := range []uint32{1 << 31, 7, math.MaxUint32} { // no square is among them
			if b.put(t, id, 77) != api.ErrFull {
				t.Fatalf("Put of one more than %d", room)
			}
			b.holds(t, full...)
		}
	}
}

// Each number beside each other one: of the same one ErrTwice, though it is full too.
func TestP15_2_ErrorsComeInTheirOrder(t *testing.T) {
	var none *table.Table[int]
	for _, first := range numbers {
		for _, second := range numbers {
			if err := none.Put(second, 2); !sentinels.Just(err, api.ErrNil) {
				t.Fatalf("Put on nil: %v", err)
			}
			want := api.ErrFull
			if first == second {
				want = api.ErrTwice
			}
			full := made(t, 1, entry[int]{first, 1})
			if err := full.put(t, second, 2); err != want {
				t.Fatalf("Put(%d) beside %d: %v", second, first, err)
			}
			full.holds(t, entry[int]{first, 1})
			if err := made(t, 2, entry[int]{first, 1}).put(t, second, 2); (err == nil) != (first != second) {
				t.Fatalf("Put(%d) beside %d, with room: %v", second, first, err)
			}
		}
	}
	if err := made[int](t, 0).put(t, 0, 0); err != api.ErrFull {
		t.Errorf("Put without any room: %v", err)
	}
}

// A thing is held under its number whatever it is: it may be the same as another, or as the one that is there.
func TestP15_2_AThingThatIsThereStays(t *testing.T) {
	b := made(t, 9, entry[int]{4, 1}, entry[int]{5, 1})
	for _, v := range []int{0, 1, 2} {
		for _, id := range []uint32{4, 5} {
			if b.put(t, id, v) != api.ErrTwice {
				t.Fatalf("Put(%d, %d)", id, v)
			}
			b.holds(t, entry[int]{4, 1}, entry[int]{5, 1})
		}
	}
}

func TestP15_2_RoomComesBack(t *testing.T) {
	for room := 1; room < 6; room++ {
		b := made(t, room, some(room)...)
		for round := range uint32(20) {
			gone := b.p.ids()[int(round)%room]
			b.drop(t, gone)
			if b.put(t, 1000+round, 1) != nil || b.put(t, 2000, 1) != api.ErrFull {
				t.Fatalf("Put behind Drop, of %d", room)
			}
			b.tells(t, gone, 2000)
		}
		b.clear(t)
		for _, e := range some(room) {
			if b.put(t, e.id, e.v) != nil {
				t.Fatalf("Put behind Clear, of %d", room)
			}
		}
		if b.put(t, 2000, 1) != api.ErrFull {
			t.Fatalf("Put above %d behind Clear", room)
		}
		b.holds(t, some(room)...)
	}
}

// Any number may hold a thing, and none stands for another.
func TestP15_3_NumbersAreToldApart(t *testing.T) {
	all := some(len(numbers))
	for i, e := range all {
		alone := made(t, 1, e)
		alone.holds(t, e)
		for _, other := range all {
			if _, ok := alone.x.Get(other.id); ok != (other == e) {
				t.Fatalf("Get(%d) where %v is: %v", other.id, e, ok)
			}
		}
		b := made(t, len(all), all...)
		if v, ok := b.drop(t, e.id); v != e.v || !ok {
			t.Fatalf("Drop of %v: %d, %v", e, v, ok)
		}
		b.holds(t, slices.Delete(slices.Clone(all), i, i+1)...)
	}
}

func TestP15_3_DropOfWhatIsNotHeld(t *testing.T) {
	for n := range 6 {
		b := made(t, 9, some(n)...)
		for _, id := range []uint32{3, 254, 258, 1 << 30, math.MaxUint32} {
			if v, ok := b.drop(t, id); v != 0 || ok {
				t.Fatalf("Drop(%d): %d, %v", id, v, ok)
			}
			b.holds(t, some(n)...)
		}
	}
}

// F8: what has left is there no more; the same number holds another thing then, if it is put anew.
func TestP15_3_WhatIsDroppedIsHeldNoMore(t *testing.T) {
	b := made(t, 3, entry[int]{7, 1}, entry[int]{9, 2})
	for v := range 20 {
		b.drop(t, 7)
		for range 2 {
			if got, ok := b.drop(t, 7); got != 0 || ok {
				t.Fatalf("Drop(7) again: %d, %v", got, ok)
			}
		}
		b.holds(t, entry[int]{9, 2})
		if b.put(t, 7, v) != nil {
			t.Fatal("Put of what was dropped")
		}
		b.holds(t, entry[int]{7, v}, entry[int]{9, 2})
	}
}

// Every order in which five things go in, and every order in which they go out.
func TestP15_3_ThingsComeAndGoInEveryOrder(t *testing.T) {
	all := []entry[int]{{0, 5}, {1, 4}, {1<<31 - 1, 3}, {1 << 31, 2}, {math.MaxUint32, 1}}
	orders(len(all), func(order []int) {
		in := made[int](t, len(all))
		out := made(t, len(all), all...)
		for _, i := range order {
			in.put(t, all[i].id, all[i].v)
			in.tells(t)
			if v, ok := out.drop(t, all[i].id); v != all[i].v || !ok {
				t.Fatalf("Drop of %v: %d, %v", all[i], v, ok)
			}
			out.tells(t)
		}
		in.holds(t, all...)
		out.holds(t)
	})
}

// A thing that is the zero value is still a thing.
func TestP15_3_ZeroValuesAreThings(t *testing.T) {
	b := made(t, 3, entry[*int]{5, nil}, entry[*int]{0, nil})
	for _, id := range []uint32{0, 5} {
		if v, ok := b.x.Get(id); v != nil || !ok {
			t.Fatalf("Get(%d): %v, %v", id, v, ok)
		}
		if b.put(t, id, new(int)) != api.ErrTwice {
			t.Fatalf("Put(%d)", id)
		}
	}
	b.holds(t, entry[*int]{0, nil}, entry[*int]{5, nil})
	if v, ok := b.drop(t, 0); v != nil || !ok {
		t.Fatalf("Drop: %v, %v", v, ok)
	}
	b.holds(t, entry[*int]{5, nil})
}

func TestP15_3_ThingsOfEachSort(t *testing.T) {
	ofSort(t, false, true, false)
	ofSort[uint8](t, 0, 255, 0)
	ofSort(t, "", "a", "\x00", "a", "\xff\u00e4")
	ofSort(t, struct{}{}, struct{}{})
	ofSort(t, [200]int{}, [200]int{199: 1}, [200]int{1}) // too great to lie in a map's own room
	ofSort(t, math.Inf(1), 0, math.MaxFloat64, 0)
	ofSort[any](t, nil, 0, int8(0), "", [1]any{}, nil)
	one, two := 5, 5
	ofSort(t, &one, &two, nil, &one)
	ofSort(t, make(chan int), make(chan int), nil)
}

// ofSort: these things, each under a number of its own, come and go as they are.
func ofSort[V comparable](t *testing.T, things ...V) {
	t.Helper()
	b := made[V](t, len(things))
	for i, v := range things {
		b.put(t, numbers[len(things)-i], v)
		b.tells(t)
	}
	for i, v := range things {
		if got, ok := b.drop(t, numbers[len(things)-i]); got != v || !ok {
			t.Fatalf("Drop: %v, %v, want %v", got, ok, v)
		}
		b.tells(t)
	}
}

// What a thing points to is the same before and behind; what can't be compared is a thing as well.
func TestP15_3_ThingsAreKeptAsTheyAre(t *testing.T) {
	list := make([]byte, 2, 8)
	x, _ := table.New[[]byte](1)
	x.Put(1, list)
	held, _ := x.Get(1)
	asked := 0
	same := func(_ uint32, got []byte) bool {
		asked++
		return &got[0] == &list[0] && len(got) == 2 && cap(got) == 8
	}
	gone := walked(x)[0].v
	if x.Count(same) != 1 || asked != 1 || !same(1, held) || !same(1, gone) {
		t.Error("not the same list")
	}
	if gone, _ = x.Drop(1); !same(1, gone) {
		t.Error("not the same list behind Drop")
	}

	mixed, _ := table.New[any](3)
	for i, v := range []any{func() {}, map[int]int{}, math.NaN()} {
		if err := mixed.Put(uint32(i), v); err != nil {
			t.Fatalf("Put(%T): %v", v, err)
		}
		if err := mixed.Put(uint32(i), v); !sentinels.Just(err, api.ErrTwice) {
			t.Fatalf("Put(%T) again: %v", v, err)
		}
	}
	v, _ := mixed.Drop(0)
	if f, ok := v.(func()); !ok || f == nil {
		t.Error("the function is lost")
	}
	v, _ = mixed.Drop(2)
	if f, ok := v.(float64); !ok || f == f {
		t.Error("the number is lost")
	}
}

func TestP15_4_LenCountsThingsAndNotCalls(t *testing.T) {
	x, _ := table.New[int](20)
	for n := range uint32(20) {
		for range 3 {
			x.Put(n, 1)
		}
		x.Get(n)
		x.Drop(n + 1)
		if x.Len() != int(n)+1 {
			t.Fatalf("Len: %d, want %d", x.Len(), n+1)
		}
	}
	for n := 19; n >= 0; n-- {
		x.Put(99, 1) // it is refused while the table is full, and goes in and out again later
		x.Drop(99)
		x.Drop(uint32(n))
		x.Drop(uint32(n))
		if x.Len() != n {
			t.Fatalf("Len: %d, want %d", x.Len(), n)
		}
	}
}

// However the numbers came, they are told rising, each time.
func TestP15_4_NumbersAreToldRising(t *testing.T) {
	const many = 1000
	for begin := range uint32(40) {
		x, _ := table.New[uint32](many)
		for n := range uint32(many) {
			id := begin + n*2654435761 // it wraps: spread over all numbers, and odd, so that none comes twice
			if err := x.Put(id, ^id); err != nil {
				t.Fatalf("Put(%d): %v", id, err)
			}
		}
		first := x.IDs()
		if len(first) != many || !slices.IsSorted(first) || len(slices.Compact(slices.Clone(first))) != many {
			t.Fatalf("IDs: %d of them, %v ..", len(first), first[:3])
		}
		for range 3 {
			i := 0
			for id, v := range x.All() {
				if id != first[i] || v != ^id {
					t.Fatalf("All: %d with %d at %d, want %d", id, v, i, first[i])
				}
				i++
			}
			if i != many || !slices.Equal(x.IDs(), first) {
				t.Fatal("the second time they are others")
			}
		}
	}
}

// Each choice of up to seven things: which says true of them, and of no others.
func TestP15_5_CountAsksOfEachOnceAndRising(t *testing.T) {
	for n := range 8 {
		for choice := range 1 << n {
			b := made(t, 9, some(n)...)
			var asked []entry[int]
			want := 0
			got := b.x.Count(func(id uint32, v int) bool {
				asked = append(asked, entry[int]{id, v})
				return choice>>(v-100)&1 == 1
			})
			for i := range n {
				want += choice >> i & 1
			}
			if got != want || !slices.Equal(asked, some(n)) {
				t.Fatalf("Count of %v: %d, want %d, asked of %v", some(n), got, want, asked)
			}
			b.holds(t, some(n)...)
		}
	}
}

func TestP15_5_CountOfNothing(t *testing.T) {
	for n := range 6 {
		b := made(t, 9, some(n)...)
		if got := b.x.Count(nil); got != 0 {
			t.Fatalf("Count(nil): %d", got)
		}
		if got := b.x.Count(func(uint32, int) bool { return false }); got != 0 {
			t.Fatalf("Count of none: %d", got)
		}
		b.holds(t, some(n)...)
		if n%2 == 0 {
			b.clear(t)
		}
		for _, id := range b.p.ids() {
			b.drop(t, id)
		}
		b.x.Count(func(uint32, int) bool {
			t.Error("asked of a thing that isn't there")
			return true
		})
	}
}

func TestP15_5_ClearLetsAllGoAndCountsThem(t *testing.T) {
	for n := range len(numbers) + 1 {
		b := made(t, n, some(n)...)
		if got := b.clear(t); got != n {
			t.Fatalf("Clear: %d, want %d", got, n)
		}
		b.holds(t)
		if got := b.clear(t); got != 0 {
			t.Fatalf("Clear again: %d", got)
		}
		for _, e := range some(n) {
			if v, ok := b.drop(t, e.id); v != 0 || ok {
				t.Fatalf("Drop(%d) behind Clear: %d, %v", e.id, v, ok)
			}
		}
		for _, e := range some(n) { // as much room as ever, under the same numbers
			if b.put(t, e.id, -e.v) != nil {
				t.Fatalf("Put(%d) behind Clear", e.id)
			}
		}
		if b.put(t, 3, 3) != api.ErrFull {
			t.Fatal("the room has grown")
		}
		if got := b.clear(t); got != n {
			t.Fatalf("Clear: %d, want %d", got, n)
		}
	}
}

func TestR7_ANilTableIsAnEmptyOneWithoutRoom(t *testing.T) {
	var x *table.Table[string]
	for range 2 {
		for _, id := range numbers {
			if err := x.Put(id, "a"); !sentinels.Just(err, api.ErrNil) {
				t.Errorf("Put(%d): %v", id, err)
			}
			if v, ok := x.Get(id); v != "" || ok {
				t.Errorf("Get(%d): %q, %v", id, v, ok)
			}
			if v, ok := x.Drop(id); v != "" || ok {
				t.Errorf("Drop(%d): %q, %v", id, v, ok)
			}
		}
		asked := func(uint32, string) bool {
			t.Error("asked of a thing that isn't there")
			return true
		}
		if x.Len() != 0 || len(x.IDs()) != 0 || x.Clear() != 0 || x.Count(asked) != 0 || x.Count(nil) != 0 {
			t.Error("Len, IDs, Clear or Count")
		}
		x.All()(asked)
	}
}
