package table_test

import (
	"iter"
	"math"
	"runtime"
	"slices"
	"sync"
	"testing"
	"weak"

	"culvert/api"
	"culvert/draws"
	"culvert/sentinels"
	"culvert/table"
)

// gives: what an iterator gives.
func gives(walk iter.Seq2[uint32, int]) []entry[int] {
	var got []entry[int]
	for id, v := range walk {
		got = append(got, entry[int]{id, v})
	}
	return got
}

// The things are told as they stood when All was called, whatever becomes of the table behind it, and as often as one asks.
func TestR8_AllTellsWhatStood(t *testing.T) {
	changes := []func(x *table.Table[int]){
		func(x *table.Table[int]) { x.Put(77, 1) },
		func(x *table.Table[int]) { x.Drop(0); x.Drop(1) },
		func(x *table.Table[int]) { x.Put(0, -1); x.Put(1, -2) }, // other things under the same numbers
		func(x *table.Table[int]) { x.Clear() },
		func(x *table.Table[int]) { x.Put(1, -3); x.Put(256, -4) },
	}
	for n := range 8 {
		x := made(t, 20, some(n)...).x
		walk := x.All()
		for i, change := range changes {
			if got := gives(walk); !slices.Equal(got, some(n)) {
				t.Fatalf("ahead of change %d: %v, want %v", i, got, some(n))
			}
			change(x)
		}
		if got := gives(walk); !slices.Equal(got, some(n)) {
			t.Fatalf("behind all: %v, want %v", got, some(n))
		}
		if got := gives(x.All()); !slices.Equal(got, []entry[int]{{1, -3}, {256, -4}}) {
			t.Fatalf("a new one: %v", got)
		}
	}
}

// Who goes over it may change the table meanwhile, and go over it once more inside.
func TestR8_TheTableMayChangeUnderTheWalk(t *testing.T) {
	for n := range 8 {
		x := made(t, 20, some(n)...).x
		walk := x.All()
		var got []entry[int]
		for id, v := range walk {
			got = append(got, entry[int]{id, v})
			x.Drop(numbers[n]) // it isn't there yet at the first turn
			x.Put(numbers[n], 1)
			x.Drop(id + 1)
			x.Drop(id)
			if inside := gives(walk); !slices.Equal(inside, some(n)) {
				t.Fatalf("inside: %v, want %v", inside, some(n))
			}
		}
		if !slices.Equal(got, some(n)) {
			t.Fatalf("All: %v, want %v", got, some(n))
		}
	}
}

func TestR8_WhoStopsEarlyGetsNoMore(t *testing.T) {
	b := made(t, 5, some(5)...)
	walk := b.x.All()
	for stop := 1; stop <= 6; stop++ {
		var got []entry[int]
		walk(func(id uint32, v int) bool {
			got = append(got, entry[int]{id, v})
			return len(got) < stop
		})
		if !slices.Equal(got, some(min(stop, 5))) {
			t.Errorf("stopped at %d: %v", stop, got)
		}
	}
	b.holds(t, some(5)...)
}

func TestR8_AllIsNeverNil(t *testing.T) {
	var none *table.Table[int]
	emptied := made(t, 5, some(5)...)
	emptied.clear(t)
	for _, x := range []*table.Table[int]{none, made[int](t, 0).x, made[int](t, 3).x, emptied.x} {
		if x.All() == nil {
			t.Fatal("a nil iterator")
		}
		if got := gives(x.All()); len(got) != 0 {
			t.Errorf("told: %v", got)
		}
	}
}

// shortCalls: each call of the short runs; the room is for two of the three numbers.
func shortCalls(t *testing.T) []func(b *both[int]) {
	calls := []func(b *both[int]){func(b *both[int]) { b.clear(t) }}
	for _, id := range []uint32{0, 5, math.MaxUint32} {
		calls = append(calls,
			func(b *both[int]) { b.put(t, id, 1) },
			func(b *both[int]) { b.put(t, id, 2) },
			func(b *both[int]) { b.drop(t, id) })
	}
	return calls
}

func TestP15_6_EveryOrderOfFiveCalls(t *testing.T) {
	calls := shortCalls(t)
	for n := range 100_000 { // of ten calls each five have a number
		b := made[int](t, 2)
		for range 5 {
			calls[n%len(calls)](b)
			n /= len(calls)
		}
		b.tells(t)
	}
}

// turn: one drawn call; the more puts there are, the more often the table is full.
func (b *both[V]) turn(t *testing.T, row *draws.Draws, puts int, some []uint32, v V) {
	t.Helper()
	id := some[row.Below(len(some))]
	switch n := row.Below(64); {
	case n < puts:
		b.put(t, id, v)
	case n < 63:
		b.drop(t, id)
	case row.Below(4) == 0:
		b.clear(t)
	}
}

// R9: two at once, neither of which hears of the other.
func TestP15_6_LongRunsOfTwoTables(t *testing.T) {
	var known []uint32
	for k := range uint32(20) {
		known = append(known, k, k<<16, k<<31+k, math.MaxUint32-k)
	}
	for seed := range draws.Draws(60) {
		puts := 16 + seed.Below(40)
		some := known[:1+seed.Below(len(known))]
		tables := [2]*both[int]{made[int](t, seed.Below(12)), made[int](t, seed.Below(60))}
		for step := range 600 {
			tables[seed.Below(2)].turn(t, &seed, puts, some, step)
			for _, b := range tables {
				b.tells(t, some...)
			}
		}
	}
}

// R4: a Put that is refused changes nothing, how often ever it is made, at a table of each fill.
func TestR4_APutThatFailsChangesNothing(t *testing.T) {
	for n := range len(numbers) {
		b := made(t, n, some(n)...)
		for range 3 {
			for _, id := range numbers {
				if b.put(t, id, -1) == nil {
					t.Fatalf("Put(%d) above the room", id)
				}
				b.holds(t, some(n)...)
			}
		}
		if n > 0 { // what was refused takes no room
			b.drop(t, numbers[n/2])
			if b.put(t, 77, 7) != nil || b.put(t, 78, 7) != api.ErrFull {
				t.Fatal("Put behind those that failed")
			}
		}
		b.tells(t)
	}
}

// R10: which is asked during Count alone.
func TestR10_WhichIsNotKept(t *testing.T) {
	b := made(t, 9, some(4)...)
	asked := 0
	which := func(uint32, int) bool { asked++; return true }
	for round := 1; round < 4; round++ {
		if n := b.x.Count(which); n != 4 || asked != 4*round {
			t.Fatalf("Count: %d, asked %d times", n, asked)
		}
		b.put(t, 77, 1)
		b.drop(t, 77)
		b.tells(t)
	}
	b.clear(t)
	if asked != 12 {
		t.Errorf("asked %d times", asked)
	}
}

// A panic of which is the caller's: it goes on, and the table is as it was.
func TestR10_APanicOfWhichGoesOn(t *testing.T) {
	for n := 1; n < 6; n++ {
		for at := range n {
			b := made(t, 9, some(n)...)
			var asked []uint32
			caught := func() (caught any) {
				defer func() { caught = recover() }()
				b.x.Count(func(id uint32, _ int) bool {
					asked = append(asked, id)
					if id == numbers[at] {
						panic(at)
					}
					return true
				})
				return nil
			}()
			if caught != at || !slices.Equal(asked, numbers[:at+1]) {
				t.Fatalf("the panic is %v, want %d, asked of %v", caught, at, asked)
			}
			b.holds(t, some(n)...)
			b.put(t, 77, 7)
			b.tells(t)
		}
	}
}

// P1: what a which makes that calls the table itself is not promised, but that Count ends without a panic, and that the table goes on.
func TestP1_AWhichThatCallsTheTable(t *testing.T) {
	for n := range 8 {
		x := made(t, math.MaxInt, some(n)...).x
		id := uint32(500)
		for _, change := range []func(){
			func() { x.Put(id, 1); id++ },
			func() { x.Drop(id); id-- },
			func() { x.Clear() },
			func() { x.Count(always[int]); gives(x.All()) },
		} {
			x.Put(1, 1)
			x.Count(func(uint32, int) bool { change(); return true })
			ids := x.IDs()
			if len(ids) != x.Len() || !slices.IsSorted(ids) {
				t.Fatalf("IDs: %v, Len %d", ids, x.Len())
			}
		}
	}
}

func TestR6_IDsAnswersNewMemory(t *testing.T) {
	b := made[int](t, 40)
	for n := range uint32(40) {
		one, two := b.x.IDs(), b.x.IDs()
		walk := b.x.All()
		for i := range one[:cap(one)] {
			one[:cap(one)][i] = 99
		}
		if !slices.Equal(two, b.p.ids()) || !slices.Equal(gives(walk), b.p.list) {
			t.Fatalf("IDs %v, All %v behind writing over another", two, gives(walk))
		}
		b.put(t, n*n, int(n))
		b.drop(t, n)
		b.tells(t, 99)
	}
}

// What was answered stays as it was, whatever becomes of the table.
func TestR6_AListThatWasAnsweredStays(t *testing.T) {
	b := made(t, 99, some(6)...)
	list := b.x.IDs()
	b.drop(t, 0)
	b.put(t, 77, 1)
	b.clear(t)
	for k := range uint32(60) {
		b.put(t, 1000+k, 1)
	}
	if !slices.Equal(list, numbers[:6]) {
		t.Errorf("the list has become %v", list)
	}
}

// What went out, one way or the other, and what was never let in, is not kept alive by the table; what is held is.
func TestR6_WhatIsNotHeldIsNotKept(t *testing.T) {
	const many = 32
	for gone := range 4 {
		x, _ := table.New[*[64]byte](many)
		var things []weak.Pointer[[64]byte]
		for id := range uint32(many + 4) { // four of them find no room
			thing := new([64]byte)
			things = append(things, weak.Make(thing))
			x.Put(id, thing)
			x.Put(id, new([64]byte))
		}
		for _, id := range x.IDs() {
			if int(id)%4 < gone {
				x.Drop(id)
			}
		}
		live := func(held func(id int) bool) {
			t.Helper()
			runtime.GC()
			for id, thing := range things {
				if lives := thing.Value() != nil; lives != held(id) {
					t.Errorf("thing %d lives: %v", id, lives)
				}
			}
			runtime.KeepAlive(x)
		}
		live(func(id int) bool { return id < many && id%4 >= gone })
		x.Clear()
		live(func(int) bool { return false })
	}
}

// F9: the room is the bound. Each call is of one thing: the whole must not take as long as if each went through all.
func TestF9_ManyThingsOneByOne(t *testing.T) {
	const many = 1 << 18 // far more than a session with the greatest Config has
	x, err := table.New[uint32](many)
	if err != nil {
		t.Fatal(err)
	}
	for n := range uint32(many) {
		if err := x.Put(n*16381, n); err != nil {
			t.Fatalf("Put number %d: %v", n, err)
		}
	}
	for n := range uint32(many) {
		if x.Put(n*16381, 0) == nil || !sentinels.Just(x.Put(math.MaxUint32, 0), api.ErrFull) || x.Len() != many {
			t.Fatalf("number %d goes in above the room", n)
		}
		if v, ok := x.Get(n * 16381); v != n || !ok {
			t.Fatalf("Get: %d, %v, want %d", v, ok, n)
		}
	}
	if ids := x.IDs(); len(ids) != many || !slices.IsSorted(ids) || x.Count(always[uint32]) != many {
		t.Fatalf("IDs of %d", len(ids))
	}
	for n := uint32(1); n < many; n += 2 {
		if v, ok := x.Drop(n * 16381); v != n || !ok || x.Len() != many-int(n+1)/2 {
			t.Fatalf("Drop: %d, %v, want %d", v, ok, n)
		}
	}
	if n := x.Clear(); n != many/2 || x.Len() != 0 {
		t.Fatalf("Clear: %d, then Len %d", n, x.Len())
	}
}

// R9: what is told hangs on nothing but the calls, not on the order in which a map is gone through.
func TestR9_TablesAtTheSameTime(t *testing.T) {
	var all sync.WaitGroup
	told := make([][]entry[int], 8)
	for i := range told {
		all.Go(func() {
			x, err := table.New[int](30)
			if err != nil {
				return // it is told below
			}
			row := draws.Draws(i % 2)
			for n := range 2000 {
				x.Put(uint32(row.Below(80)), n)
				x.Drop(uint32(row.Below(120)))
				x.Count(func(id uint32, v int) bool {
					told[i] = append(told[i], entry[int]{id, v})
					return true
				})
			}
		})
	}
	all.Wait()
	for i, list := range told {
		if len(list) == 0 || !slices.Equal(list, told[i%2]) {
			t.Errorf("number %d was told others than number %d", i, i%2)
		}
	}
}
