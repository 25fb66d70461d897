package fifo_test

import (
	"math"
	"runtime"
	"slices"
	"testing"
	"weak"

	"culvert/api"
	"culvert/draws"
	"culvert/fifo"
	"culvert/sentinels"
)

// item is a thing with its weight.
type item[T any] struct {
	v T
	w int
}

// newFifo: a queue that must come about.
func newFifo[T any](t *testing.T, things, weight int) *fifo.Fifo[T] {
	t.Helper()
	f, err := fifo.New[T](things, weight)
	if f == nil || err != nil {
		t.Fatalf("New(%d, %d): %v, %v", things, weight, f, err)
	}
	return f
}

// put: a Put that must end so.
func put[T any](t *testing.T, f *fifo.Fifo[T], v T, weight int, want error) {
	t.Helper()
	if err := f.Put(v, weight); !sentinels.Just(err, want) {
		t.Fatalf("Put(%v, %d): %v, want %v", v, weight, err, want)
	}
}

// all: what All gives.
func all[T any](f *fifo.Fifo[T]) []item[T] {
	var got []item[T]
	for v, w := range f.All() {
		got = append(got, item[T]{v, w})
	}
	return got
}

// tells: every answer that changes nothing is that of a queue with these things.
func tells[T comparable](t *testing.T, f *fifo.Fifo[T], want []item[T]) {
	t.Helper()
	weight := 0
	for _, x := range want {
		weight += x.w
	}
	if f.Len() != len(want) || f.Weight() != weight {
		t.Fatalf("Len %d, Weight %d, want %d, %d", f.Len(), f.Weight(), len(want), weight)
	}
	if got := all(f); !slices.Equal(got, want) {
		t.Fatalf("All: %v, want %v", got, want)
	}
	var head item[T]
	if len(want) > 0 {
		head = want[0]
	}
	if v, w, ok := f.Head(); v != head.v || w != head.w || ok != (len(want) > 0) {
		t.Fatalf("Head: %v, %d, %v of %v", v, w, ok, want)
	}
}

// gets: Get answers the things of a queue with these, the first of them, and takes it out; what is left.
func gets[T comparable](t *testing.T, f *fifo.Fifo[T], want []item[T]) []item[T] {
	t.Helper()
	v, w, ok := f.Get()
	if len(want) == 0 {
		var none T
		if v != none || w != 0 || ok {
			t.Fatalf("Get of nothing: %v, %d, %v", v, w, ok)
		}
		return nil
	}
	if v != want[0].v || w != want[0].w || !ok {
		t.Fatalf("Get: %v, %d, %v of %v", v, w, ok, want)
	}
	return want[1:]
}

// turned: a queue with these things, through which so many others have gone.
func turned(t *testing.T, times int, things []item[int]) *fifo.Fifo[int] {
	t.Helper()
	f := newFifo[int](t, 99, 999)
	for i := range times {
		put(t, f, -i, i, nil)
	}
	for i, x := range things {
		put(t, f, x.v, x.w, nil)
		if i < times {
			f.Get()
		}
	}
	for f.Len() > len(things) {
		f.Get()
	}
	tells(t, f, things)
	return f
}

// some: so many things, with weights of which some are 0 and some the same.
func some(n int) []item[int] {
	return []item[int]{{1, 4}, {2, 0}, {3, 7}, {4, 4}, {5, 0}, {6, 1}, {7, 9}}[:n]
}

func TestP3_1_NewTakesRoomsFromNoughtOn(t *testing.T) {
	for _, things := range []int{math.MinInt, -2, -1, 0, 1, 1 << 32, math.MaxInt} {
		for _, weight := range []int{math.MinInt, -2, -1, 0, 1, 1 << 32, math.MaxInt} {
			if things >= 0 && weight >= 0 {
				tells(t, newFifo[int](t, things, weight), nil)
			} else if f, err := fifo.New[int](things, weight); f != nil || !sentinels.Just(err, api.ErrRange) {
				t.Errorf("New(%d, %d): %v, %v", things, weight, f, err)
			}
		}
	}
}

// Things of a mebibyte: all that the room is for would go into no machine.
func TestP3_1_GreatRoomsCostNothingAhead(t *testing.T) {
	type block [1 << 20]byte
	f := newFifo[block](t, math.MaxInt, math.MaxInt)
	for i := range 4 {
		put(t, f, block{byte(i)}, math.MaxInt/4, nil)
	}
	for i := range 4 {
		if v, w, ok := f.Get(); v[0] != byte(i) || w != math.MaxInt/4 || !ok {
			t.Fatalf("Get: %d, %d, %v", v[0], w, ok)
		}
	}
}

// The chapter's examples, in their order.
func TestP3_2_Examples(t *testing.T) {
	f := newFifo[string](t, 2, 5)
	put(t, f, "a", 3, nil)
	put(t, f, "b", 3, api.ErrFull)
	put(t, f, "b", -1, api.ErrRange)
	put(t, f, "b", 2, nil)
	put(t, f, "c", 0, api.ErrFull)
	tells(t, f, []item[string]{{"a", 3}, {"b", 2}})
	gets(t, f, []item[string]{{"a", 3}})
	put(t, f, "", 0, nil)
	tells(t, f, []item[string]{{"b", 2}, {"", 0}})
	if n := f.Remove(func(s string) bool { return s == "b" }); n != 1 {
		t.Errorf("Remove: %d", n)
	}
	gets(t, f, []item[string]{{"", 0}})
	gets(t, f, nil)

	put(t, newFifo[string](t, 0, 0), "a", 0, api.ErrFull)
	great := newFifo[string](t, 2, math.MaxInt)
	put(t, great, "a", math.MaxInt, nil)
	put(t, great, "b", 1, api.ErrFull)
	tells(t, great, []item[string]{{"a", math.MaxInt}})
}

// Each weight, at each room, behind each weight that is held already.
func TestP3_2_PutIsRefusedAboveTheRooms(t *testing.T) {
	weights := []int{0, 1, 2, 3, 1 << 31, 1 << 62, math.MaxInt - 1, math.MaxInt}
	for _, room := range weights {
		for _, held := range weights {
			for _, w := range weights {
				if held > room {
					continue
				}
				f := newFifo[int](t, 2, room)
				put(t, f, 1, held, nil)
				if w > room-held {
					put(t, f, 2, w, api.ErrFull)
					tells(t, f, []item[int]{{1, held}})
				} else {
					put(t, f, 2, w, nil)
					tells(t, f, []item[int]{{1, held}, {2, w}})
					put(t, f, 3, 0, api.ErrFull)
					tells(t, f, []item[int]{{1, held}, {2, w}})
				}
			}
		}
	}
}

func TestP3_2_ErrorsComeInTheirOrder(t *testing.T) {
	var none *fifo.Fifo[int]
	full := newFifo[int](t, 1, 1)
	put(t, full, 1, 1, nil)
	for _, w := range []int{math.MinInt, -2, -1} {
		put(t, none, 1, w, api.ErrNil)
		put(t, full, 2, w, api.ErrRange)
		put(t, newFifo[int](t, 0, 0), 2, w, api.ErrRange)
		put(t, newFifo[int](t, 9, 9), 2, w, api.ErrRange)
		tells(t, full, []item[int]{{1, 1}})
	}
	for _, w := range []int{0, 1, math.MaxInt} {
		put(t, none, 1, w, api.ErrNil)
		put(t, full, 2, w, api.ErrFull)
		put(t, newFifo[int](t, 0, math.MaxInt), 2, w, api.ErrFull)
	}
	put(t, newFifo[int](t, math.MaxInt, 0), 2, 1, api.ErrFull)
	put(t, newFifo[int](t, math.MaxInt, 0), 2, 0, nil)
}

// What goes out makes room again, for things and for weight.
func TestP3_2_RoomComesBack(t *testing.T) {
	f := newFifo[int](t, 3, 10)
	for range 20 {
		put(t, f, 1, 5, nil)
		put(t, f, 2, 5, nil)
		put(t, f, 3, 1, api.ErrFull)
		put(t, f, 3, 0, nil)
		put(t, f, 4, 0, api.ErrFull)
		gets(t, f, []item[int]{{1, 5}})
		put(t, f, 4, 6, api.ErrFull)
		put(t, f, 4, 5, nil)
		if n := f.Remove(func(v int) bool { return v == 2 }); n != 1 {
			t.Fatalf("Remove: %d", n)
		}
		put(t, f, 5, 6, api.ErrFull)
		put(t, f, 5, 5, nil)
		tells(t, f, []item[int]{{3, 0}, {4, 5}, {5, 5}})
		for range 3 {
			f.Get()
		}
	}
}

func TestP3_3_GetAndHeadAnswerTheFirst(t *testing.T) {
	for times := range 9 {
		for n := range 8 {
			want := some(n)
			f := turned(t, times, want)
			for range n + 2 {
				tells(t, f, want)
				tells(t, f, want)
				want = gets(t, f, want)
			}
		}
	}
}

// A thing that is the zero value is still a thing.
func TestP3_3_ZeroValuesAreThings(t *testing.T) {
	f := newFifo[*int](t, 2, 0)
	put(t, f, nil, 0, nil)
	put(t, f, nil, 0, nil)
	for left := 2; left > 0; left-- {
		if v, w, ok := f.Head(); v != nil || w != 0 || !ok {
			t.Fatalf("Head: %v, %d, %v", v, w, ok)
		}
		if v, w, ok := f.Get(); v != nil || w != 0 || !ok || f.Len() != left-1 {
			t.Fatalf("Get: %v, %d, %v", v, w, ok)
		}
	}
	gets(t, f, nil)
}

// What a thing points to is the same before and behind; what can't be compared is a thing as well.
func TestP3_3_ThingsAreKeptAsTheyAre(t *testing.T) {
	list := make([]byte, 2, 8)
	f := newFifo[[]byte](t, 2, 2)
	put(t, f, list, 0, nil)
	for _, got := range [][]byte{all(f)[0].v, first(f.Head()), first(f.Get())} {
		if &got[0] != &list[0] || len(got) != 2 || cap(got) != 8 {
			t.Errorf("not the same list: %v, %d, %d", got, len(got), cap(got))
		}
	}

	mixed := newFifo[any](t, 3, 3)
	things := []any{func() {}, map[int]int{}, math.NaN()}
	for _, v := range things {
		put(t, mixed, v, 1, nil)
	}
	mixed.Remove(func(v any) bool { _, isMap := v.(map[int]int); return isMap })
	if v, ok := first(mixed.Get()).(func()); !ok || v == nil {
		t.Error("the function is lost")
	}
	if v, ok := first(mixed.Get()).(float64); !ok || v == v {
		t.Error("the number is lost")
	}
}

func first[T any](v T, _ int, _ bool) T { return v }

func TestP3_4_LenAndWeight(t *testing.T) {
	f := newFifo[int](t, 4, math.MaxInt)
	for i, w := range []int{math.MaxInt - 3, 0, 2, 1} {
		put(t, f, i, w, nil)
	}
	for _, want := range [][2]int{{4, math.MaxInt}, {3, 3}, {2, 3}, {1, 1}, {0, 0}, {0, 0}} {
		if f.Len() != want[0] || f.Weight() != want[1] {
			t.Errorf("Len %d, Weight %d, want %v", f.Len(), f.Weight(), want)
		}
		f.Get()
	}
}

// Every choice of up to seven things is taken out, from queues that begin at different places of their list.
func TestP3_5_RemoveTakesOutTheChosen(t *testing.T) {
	for times := range 4 {
		for n := range 8 {
			for choice := range 1 << n {
				removeChoice(t, times*2, some(n), func(v int) bool { return choice>>(v-1)&1 == 1 })
			}
		}
	}
}

func removeChoice(t *testing.T, times int, things []item[int], chosen func(int) bool) {
	t.Helper()
	f := turned(t, times, things)
	var asked, held []int
	var stay []item[int]
	for _, x := range things {
		held = append(held, x.v)
		if !chosen(x.v) {
			stay = append(stay, x)
		}
	}
	n := f.Remove(func(v int) bool {
		asked = append(asked, v)
		return chosen(v)
	})
	if n != len(things)-len(stay) || !slices.Equal(asked, held) {
		t.Fatalf("Remove of %v: %d, asked of %v", things, n, asked)
	}
	tells(t, f, stay)
	put(t, f, 77, 7, nil)
	stay = append(stay, item[int]{77, 7})
	for range len(stay) + 1 {
		tells(t, f, stay)
		stay = gets(t, f, stay)
	}
}

func TestP3_5_RemoveOfNothing(t *testing.T) {
	never := func(int) bool {
		t.Error("asked of a thing that isn't there")
		return true
	}
	for n := range 4 {
		f := turned(t, 3, some(n))
		if got := f.Remove(nil); got != 0 {
			t.Errorf("Remove(nil): %d", got)
		}
		tells(t, f, some(n))
		for f.Len() > 0 {
			f.Get()
		}
		if got := f.Remove(never); got != 0 {
			t.Errorf("Remove of none: %d", got)
		}
	}
}

// which says true till it panics, at each thing: none of them has been taken out.
func TestP3_5_APanicGoesOnAndTakesNothingOut(t *testing.T) {
	for times := range 4 {
		for n := 1; n < 8; n++ {
			for at := 1; at <= n; at++ {
				f := turned(t, times, some(n))
				caught := panicOf(func() {
					f.Remove(func(v int) bool {
						if v == at {
							panic(at)
						}
						return true
					})
				})
				if caught != at {
					t.Fatalf("the panic is %v, want %d", caught, at)
				}
				tells(t, f, some(n))
				put(t, f, 77, 7, nil)
				tells(t, f, append(slices.Clone(some(n)), item[int]{77, 7}))
			}
		}
	}
}

func panicOf(f func()) (caught any) {
	defer func() { caught = recover() }()
	f()
	return nil
}

// The things are told as they stood when All was called, whatever goes in and out behind it, and as often as one asks.
func TestP3_6_AllTellsWhatStood(t *testing.T) {
	for times := range 4 {
		for n := range 8 {
			f := turned(t, times, some(n))
			walk := f.All()
			for step := range 6 {
				var got []item[int]
				for v, w := range walk {
					got = append(got, item[int]{v, w})
					f.Get()
					f.Put(70+step, 1)
				}
				if !slices.Equal(got, some(n)) {
					t.Fatalf("step %d: %v, want %v", step, got, some(n))
				}
				f.Remove(func(v int) bool { return (v+step)%3 == 0 })
			}
		}
	}
}

func TestP3_6_WhoStopsEarlyGetsNoMore(t *testing.T) {
	f := turned(t, 2, some(5))
	walk := f.All()
	for stop := 1; stop <= 6; stop++ {
		var got []int
		walk(func(v, w int) bool {
			got = append(got, v)
			return len(got) < stop
		})
		if want := []int{1, 2, 3, 4, 5}[:min(stop, 5)]; !slices.Equal(got, want) {
			t.Errorf("stopped at %d: %v", stop, got)
		}
	}
	tells(t, f, some(5))
}

func TestP3_6_AllIsNeverNil(t *testing.T) {
	var none *fifo.Fifo[int]
	for _, f := range []*fifo.Fifo[int]{none, newFifo[int](t, 0, 0), newFifo[int](t, 3, 3), turned(t, 5, nil)} {
		if f.All() == nil {
			t.Fatal("a nil iterator")
		}
		for v, w := range f.All() {
			t.Errorf("told: %d, %d", v, w)
		}
	}
}

// Long runs of all calls on two queues at a time, each held against a plain list of its own (R9).
func TestP3_7_AgainstPlainLists(t *testing.T) {
	for _, things := range []int{0, 1, 2, 3, 8, 40} {
		for _, weight := range []int{0, 1, 5, 60, math.MaxInt} {
			d := draws.Draws(things*1000 + weight)
			runs := []*run{newRun(t, things, weight), newRun(t, things/2, weight/2)}
			for range 500 {
				runs[d.Below(2)].step(t, &d)
				runs[0].check(t)
				runs[1].check(t)
			}
		}
	}
}

// run is a queue and the plain list that it is held against.
type run struct {
	f              *fifo.Fifo[int]
	things, weight int
	held           []item[int]
	sum            int
	next           int
}

func newRun(t *testing.T, things, weight int) *run {
	return &run{f: newFifo[int](t, things, weight), things: things, weight: weight}
}

func (r *run) check(t *testing.T) {
	t.Helper()
	tells(t, r.f, r.held)
	if r.f.Len() > r.things || r.f.Weight() > r.weight {
		t.Fatalf("Len %d of %d, Weight %d of %d", r.f.Len(), r.things, r.f.Weight(), r.weight)
	}
}

func (r *run) step(t *testing.T, d *draws.Draws) {
	t.Helper()
	switch d.Below(8) {
	case 0, 1, 2, 3:
		r.put(t, d)
	case 4, 5, 6:
		r.held = gets(t, r.f, r.held)
	case 7:
		part, of := d.Below(5), 2+d.Below(4)
		chosen := func(v int) bool { return v%of == part }
		before := len(r.held)
		r.held = slices.DeleteFunc(slices.Clone(r.held), func(x item[int]) bool { return chosen(x.v) })
		if n := r.f.Remove(chosen); n != before-len(r.held) {
			t.Fatalf("Remove: %d, want %d", n, before-len(r.held))
		}
	}
	r.sum = 0
	for _, x := range r.held {
		r.sum += x.w
	}
}

func (r *run) put(t *testing.T, d *draws.Draws) {
	t.Helper()
	w := d.Below(9) - 1
	if d.Below(6) == 0 {
		w = r.weight - r.sum + d.Below(2) // what is left, or one more; where that wraps it is below 0
	}
	r.next++
	switch {
	case w < 0:
		put(t, r.f, r.next, w, api.ErrRange)
	case len(r.held) == r.things || w > r.weight-r.sum:
		put(t, r.f, r.next, w, api.ErrFull)
	default:
		put(t, r.f, r.next, w, nil)
		r.held = append(slices.Clone(r.held), item[int]{r.next, w})
	}
}

// Each Put and Get is of one thing: the whole must not take as long as if each copied all things.
func TestP3_7_ManyThingsOneByOne(t *testing.T) {
	const many = 1 << 18
	f := newFifo[int](t, many, math.MaxInt)
	in, out := 0, 0
	for range many {
		put(t, f, in, in, nil)
		in++
	}
	put(t, f, in, 0, api.ErrFull)
	for range many {
		gets(t, f, []item[int]{{out, out}})
		out++
		put(t, f, in, in, nil)
		in++
	}
	for f.Len() > 0 {
		gets(t, f, []item[int]{{out, out}})
		out++
	}
	if in != out || f.Weight() != 0 {
		t.Errorf("%d in, %d out, Weight %d", in, out, f.Weight())
	}
}

func TestR7_ANilQueueIsAnEmptyOne(t *testing.T) {
	var f *fifo.Fifo[string]
	for _, w := range []int{math.MinInt, -1, 0, 1, math.MaxInt} {
		put(t, f, "a", w, api.ErrNil)
		gets(t, f, nil)
		tells(t, f, nil)
	}
	asked := 0
	if n := f.Remove(func(string) bool { asked++; return true }) + f.Remove(nil); n != 0 || asked != 0 {
		t.Errorf("Remove: %d, asked %d times", n, asked)
	}
}

// What was taken out, one way or the other, is not kept alive by the queue.
func TestR6_WhatWentOutIsNotKept(t *testing.T) {
	for n := range 17 {
		f := newFifo[*[64]byte](t, 16, 0)
		left := fill(f)
		for range n {
			f.Get()
		}
		keeps(t, f, left, func(i int) bool { return i >= n })

		f = newFifo[*[64]byte](t, 16, 0)
		left = fill(f)
		at := -1
		f.Remove(func(*[64]byte) bool { at++; return at%3 == n%3 })
		keeps(t, f, left, func(i int) bool { return i%3 != n%3 })
	}
}

// fill: weak pointers to the things of a full queue, which alone has them.
func fill(f *fifo.Fifo[*[64]byte]) []weak.Pointer[[64]byte] {
	var left []weak.Pointer[[64]byte]
	for range 16 {
		p := new([64]byte)
		left = append(left, weak.Make(p))
		f.Put(p, 0)
	}
	return left
}

func keeps(t *testing.T, f *fifo.Fifo[*[64]byte], left []weak.Pointer[[64]byte], kept func(int) bool) {
	t.Helper()
	runtime.GC()
	for i, p := range left {
		if lives := p.Value() != nil; lives != kept(i) {
			t.Errorf("thing %d lives: %v", i, lives)
		}
	}
	runtime.KeepAlive(f)
}
