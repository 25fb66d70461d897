package handles_test

import (
	"math"
	"slices"
	"testing"

	"culvert/api"
	"culvert/handles"
	"culvert/sentinels"
)

// The chapter's examples, in their order.
func TestP22_1_Examples(t *testing.T) {
	h := handles.New()
	binds := func(p api.Place, want int, wantErr error) {
		t.Helper()
		if n, err := h.Bind(p); n != want || !sentinels.Just(err, wantErr) {
			t.Errorf("Bind(%v): %d, %v, want %d, %v", p, n, err, want, wantErr)
		}
	}
	lists := func(conn, life int, want ...int) {
		t.Helper()
		if got := h.On(conn, life); !slices.Equal(got, want) {
			t.Errorf("On(%d, %d): %v, want %v", conn, life, got, want)
		}
	}
	binds(at(0, 1, 1), 1, nil)
	binds(at(0, 1, 3), 2, nil)
	binds(at(0, 1, 1), 0, api.ErrTwice)
	binds(at(1, 1, 1), 3, nil)
	if n, ok := h.Of(at(0, 1, 3)); n != 2 || !ok {
		t.Errorf("Of: %d, %v", n, ok)
	}
	lists(0, 1, 1, 2)
	if !h.Drop(1) || h.Drop(1) {
		t.Error("Drop(1)")
	}
	if p, ok := h.Find(1); p != at(0, 0, 0) || ok {
		t.Errorf("Find(1): %v, %v", p, ok)
	}
	binds(at(0, 1, 1), 4, nil)
	lists(0, 1, 2, 4)
	lists(0, 2)
	if n := h.Len(); n != 3 {
		t.Errorf("Len: %d", n)
	}
}

func TestP22_1_NewHasNoPairs(t *testing.T) {
	b := made(t)
	for range 2 {
		b.holds(t)
		b.tells(t, edges()...)
		for _, handle := range append(noHandles, 1, 2, 3) {
			if b.drop(t, handle) {
				t.Fatalf("Drop(%d)", handle)
			}
		}
	}
	if n, err := b.bind(t, at(0, 0, 0)); n != 1 || err != nil {
		t.Errorf("the first handle: %d, %v", n, err)
	}
}

// The next handle is one more than the last that was given, whichever were dropped since.
func TestP22_2_HandlesRiseByOne(t *testing.T) {
	for choice := range 1 << 8 {
		b := made(t)
		for i, p := range few(8) {
			if n, err := b.bind(t, p); n != i+1 || err != nil {
				t.Fatalf("Bind number %d: %d, %v", i+1, n, err)
			}
			if choice>>i&1 == 1 {
				b.drop(t, i+1)
			}
		}
		b.tells(t, few(9)...)
		for _, held := range slices.Clone(b.p.pairs) {
			b.drop(t, held.handle)
		}
		b.holds(t)
		if n, err := b.bind(t, few(1)[0]); n != 9 || err != nil {
			t.Fatalf("Bind behind all: %d, %v", n, err)
		}
	}
}

// A place may have any numbers, and none stands for another.
func TestP22_2_PlacesAreToldApart(t *testing.T) {
	all := edges()
	whole := made(t, all...)
	whole.holds(t, bound(all)...)
	whole.tells(t, all...)
	for _, p := range all {
		alone := made(t, p)
		alone.holds(t, pair{1, p})
		for _, other := range all {
			if n, ok := alone.x.Of(other); ok != (other == p) || ok != (n == 1) {
				t.Fatalf("Of(%v) where %v is bound: %d, %v", other, p, n, ok)
			}
		}
	}
}

// Of each two places the second goes in just if it is another.
func TestP22_2_APlaceThatHasAHandleGetsNoOther(t *testing.T) {
	all := few(32)
	for _, one := range all {
		for _, two := range all {
			b := made(t, one)
			n, err := b.bind(t, two)
			if one == two && (n != 0 || err != api.ErrTwice) || one != two && (n != 2 || err != nil) {
				t.Fatalf("Bind(%v) beside %v: %d, %v", two, one, n, err)
			}
			b.tells(t, one, two)
		}
	}
}

// A Bind that is refused changes nothing, how often ever it is made; it uses up no handle.
func TestR4_ABindThatFailsChangesNothing(t *testing.T) {
	for n := 1; n < 12; n++ {
		b := made(t, few(n)...)
		for range 3 {
			for _, p := range few(n) {
				if got, err := b.bind(t, p); got != 0 || err != api.ErrTwice {
					t.Fatalf("Bind(%v) again: %d, %v", p, got, err)
				}
				b.holds(t, bound(few(n))...)
			}
		}
		if got, err := b.bind(t, at(77, 1, 1)); got != n+1 || err != nil {
			t.Fatalf("Bind behind those that failed: %d, %v", got, err)
		}
	}
}

func TestP22_3_FindOfWhatIsNoHandle(t *testing.T) {
	for n := range 8 {
		b := made(t, few(n)...)
		for _, handle := range append(noHandles, n+1, n+2, n+1<<32) {
			if p, ok := b.x.Find(handle); p != (api.Place{}) || ok {
				t.Errorf("Find(%d) of %d: %v, %v", handle, n, p, ok)
			}
		}
	}
}

// A place that is the zero value is still a place.
func TestP22_3_TheZeroPlaceIsAPlace(t *testing.T) {
	b := made(t, at(5, 1, 1), at(0, 0, 0), at(0, 0, 1))
	if p, ok := b.x.Find(2); p != at(0, 0, 0) || !ok {
		t.Errorf("Find(2): %v, %v", p, ok)
	}
	if n, ok := b.x.Of(at(0, 0, 0)); n != 2 || !ok {
		t.Errorf("Of: %d, %v", n, ok)
	}
	for _, handle := range append(noHandles, 4, 5) { // of these Find tells the zero place too
		b.drop(t, handle)
		b.holds(t, pair{1, at(5, 1, 1)}, pair{2, at(0, 0, 0)}, pair{3, at(0, 0, 1)})
	}
	if got := b.x.On(0, 0); !slices.Equal(got, []int{2, 3}) {
		t.Errorf("On(0, 0): %v", got)
	}
	b.drop(t, 1)
	b.drop(t, 1)
	b.holds(t, pair{2, at(0, 0, 0)}, pair{3, at(0, 0, 1)})
	b.drop(t, 2)
	b.holds(t, pair{3, at(0, 0, 1)})
}

func TestP22_4_DropOfWhatIsNoHandle(t *testing.T) {
	for n := range 8 {
		b := made(t, few(n)...)
		for _, handle := range append(noHandles, n+1, n+2, n+1<<32, -n) {
			if b.drop(t, handle) {
				t.Fatalf("Drop(%d) of %d", handle, n)
			}
			b.holds(t, bound(few(n))...)
		}
		if got, err := b.bind(t, at(77, 1, 1)); got != n+1 || err != nil {
			t.Fatalf("Bind behind Drops of nothing: %d, %v", got, err)
		}
	}
}

// What goes takes no other with it, in every order.
func TestP22_4_PairsGoInEveryOrder(t *testing.T) {
	places := few(5)
	orders(len(places), func(order []int) {
		b := made(t, places...)
		left := bound(places)
		for _, i := range order {
			if !b.drop(t, i+1) || b.drop(t, i+1) {
				t.Fatalf("Drop(%d)", i+1)
			}
			left = slices.DeleteFunc(left, func(p pair) bool { return p.handle == i+1 })
			b.holds(t, left...)
			b.tells(t, places...)
		}
	})
}

// A place that is bound again has a new handle; the elder ones never find it.
func TestP22_4_APlaceIsBoundAgainToANewHandle(t *testing.T) {
	b := made(t, at(2, 1, 9), at(2, 1, 7))
	b.drop(t, 1)
	for handle := 3; handle < 40; handle++ {
		if n, ok := b.x.Of(at(2, 1, 9)); n != 0 || ok {
			t.Fatalf("Of what was dropped: %d, %v", n, ok)
		}
		if n, err := b.bind(t, at(2, 1, 9)); n != handle || err != nil {
			t.Fatalf("Bind again: %d, %v, want %d", n, err, handle)
		}
		for elder := 1; elder < handle; elder++ {
			if elder != 2 && b.drop(t, elder) {
				t.Fatalf("Drop of the elder handle %d", elder)
			}
		}
		b.holds(t, pair{2, at(2, 1, 7)}, pair{handle, at(2, 1, 9)})
		b.drop(t, handle)
	}
}

// Each choice of eight pairs is dropped; the handles on each connection are those that are left there, rising.
func TestP22_5_OnTellsThoseOfOneConnectionAndLife(t *testing.T) {
	places := []api.Place{
		at(1, 2, 9), at(2, 1, 9), at(1, 2, 3), at(1, 1, 9), at(1, 2, math.MaxUint32), at(2, 2, 9), at(1, 2, 0), at(2, 1, 1),
	}
	for choice := range 1 << len(places) {
		b := made(t, places...)
		want := map[[2]int][]int{}
		for i, p := range places {
			if choice>>i&1 == 1 {
				b.drop(t, i+1)
				continue
			}
			key := [2]int{p.Conn, p.Life}
			want[key] = append(want[key], i+1)
		}
		for conn := range 4 {
			for life := range 4 {
				if got := b.x.On(conn, life); !slices.Equal(got, want[[2]int{conn, life}]) {
					t.Fatalf("On(%d, %d) at %v: %v, want %v", conn, life, b.p, got, want[[2]int{conn, life}])
				}
			}
		}
	}
}

// So many that a map's order is seen by no chance: they are told rising, each time.
func TestP22_5_HandlesAreToldRising(t *testing.T) {
	const many = 1000
	b := made(t)
	var want []int
	for i := range many {
		n, _ := b.bind(t, at(4, 9, uint32(i)*2654435761)) // it wraps: spread over all numbers, and odd, so that none comes twice
		b.bind(t, at(9, 4, uint32(i)))
		if i%3 == 0 {
			b.drop(t, n)
		} else {
			want = append(want, n)
		}
	}
	for range 20 {
		if got := b.x.On(4, 9); !slices.Equal(got, want) {
			t.Fatalf("On: %v", got)
		}
	}
	if got := b.x.On(9, 4); len(got) != many || !slices.IsSorted(got) {
		t.Fatalf("On of the others: %d of them", len(got))
	}
}

func TestP22_5_LenCountsPairsAndNotCalls(t *testing.T) {
	x := handles.New()
	for n := range 20 {
		for range 3 {
			x.Bind(at(n, 1, 1))
		}
		x.Find(n)
		x.Of(at(n, 2, 1))
		x.Drop(n + 2)
		if x.Len() != n+1 {
			t.Fatalf("Len: %d, want %d", x.Len(), n+1)
		}
	}
	for n := 19; n >= 0; n-- {
		x.Drop(n + 1)
		x.Drop(n + 1)
		if x.Len() != n {
			t.Fatalf("Len: %d, want %d", x.Len(), n)
		}
	}
}

func TestR7_ANilHandlesIsOneWithoutPairs(t *testing.T) {
	var x *handles.Handles
	for range 2 {
		for _, p := range edges() {
			if n, err := x.Bind(p); n != 0 || !sentinels.Just(err, api.ErrNil) {
				t.Fatalf("Bind(%v): %d, %v", p, n, err)
			}
			if n, ok := x.Of(p); n != 0 || ok {
				t.Fatalf("Of(%v): %d, %v", p, n, ok)
			}
			if list := x.On(p.Conn, p.Life); len(list) != 0 {
				t.Fatalf("On(%d, %d): %v", p.Conn, p.Life, list)
			}
		}
		for _, handle := range append(noHandles, 1, 2) {
			if p, ok := x.Find(handle); p != (api.Place{}) || ok || x.Drop(handle) {
				t.Fatalf("Find(%d): %v, %v, or Drop", handle, p, ok)
			}
		}
		if x.Len() != 0 {
			t.Fatalf("Len: %d", x.Len())
		}
	}
}
