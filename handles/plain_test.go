package handles_test

import (
	"math"
	"slices"
	"testing"

	"culvert/api"
	"culvert/handles"
	"culvert/sentinels"
)

// pair is a handle with its place.
type pair struct {
	handle int
	place  api.Place
}

// plain is what the chapter says that a Handles keeps: how many handles were given, and pairs, here in the order in which they came.
type plain struct {
	given int
	pairs []pair
}

func (p *plain) bind(place api.Place) (int, error) {
	if _, bound := p.of(place); bound {
		return 0, api.ErrTwice
	}
	p.given++
	p.pairs = append(p.pairs, pair{p.given, place})
	return p.given, nil
}

func (p *plain) find(handle int) (api.Place, bool) {
	for _, held := range p.pairs {
		if held.handle == handle {
			return held.place, true
		}
	}
	return api.Place{}, false
}

func (p *plain) of(place api.Place) (int, bool) {
	for _, held := range p.pairs {
		if held.place.Conn == place.Conn && held.place.Life == place.Life && held.place.ID == place.ID {
			return held.handle, true
		}
	}
	return 0, false
}

func (p *plain) drop(handle int) bool {
	for i, held := range p.pairs {
		if held.handle == handle {
			p.pairs = slices.Delete(p.pairs, i, i+1)
			return true
		}
	}
	return false
}

func (p *plain) on(conn, life int) []int {
	var all []int
	for _, held := range p.pairs {
		if held.place.Conn == conn && held.place.Life == life {
			all = append(all, held.handle)
		}
	}
	return all
}

// both is a Handles beside a plain one.
type both struct {
	x *handles.Handles
	p plain
}

// made: a new Handles to which these places were bound, beside a plain one.
func made(t *testing.T, places ...api.Place) *both {
	t.Helper()
	b := &both{x: handles.New()}
	if b.x == nil {
		t.Fatal("New: nil")
	}
	for _, p := range places {
		if _, err := b.bind(t, p); err != nil {
			t.Fatalf("Bind(%v): %v", p, err)
		}
	}
	return b
}

func (b *both) bind(t *testing.T, p api.Place) (int, error) {
	t.Helper()
	want, wantErr := b.p.bind(p)
	if got, err := b.x.Bind(p); got != want || !sentinels.Just(err, wantErr) {
		t.Fatalf("Bind(%v), then %v: %d, %v, want %d, %v", p, b.p, got, err, want, wantErr)
	}
	return want, wantErr
}

func (b *both) drop(t *testing.T, handle int) bool {
	t.Helper()
	want := b.p.drop(handle)
	if got := b.x.Drop(handle); got != want {
		t.Fatalf("Drop(%d), then %v: %v, want %v", handle, b.p, got, want)
	}
	return want
}

// tells: every answer is the plain one's, for these places, those that are bound and those beside them, and for all handles that were given and those beside them.
func (b *both) tells(t *testing.T, asked ...api.Place) {
	t.Helper()
	if n := b.x.Len(); n != len(b.p.pairs) {
		t.Fatalf("Len: %d of %v", n, b.p)
	}
	for handle := -1; handle <= b.p.given+1; handle++ {
		b.finds(t, handle)
	}
	for _, handle := range noHandles {
		b.finds(t, handle)
	}
	for _, held := range b.p.pairs {
		b.finds(t, held.handle+1<<32) // it may be taken for the other if it is cut to fewer bits
		b.isOf(t, held.place)
		b.isOn(t, held.place.Conn, held.place.Life)
	}
	for _, p := range append(asked, api.Place{}) {
		for _, q := range beside(p) {
			b.isOf(t, q)
			b.isOn(t, q.Conn, q.Life)
		}
	}
}

func (b *both) finds(t *testing.T, handle int) {
	t.Helper()
	want, wantOK := b.p.find(handle)
	if p, ok := b.x.Find(handle); p != want || ok != wantOK {
		t.Fatalf("Find(%d) of %v: %v, %v, want %v, %v", handle, b.p, p, ok, want, wantOK)
	}
}

func (b *both) isOf(t *testing.T, p api.Place) {
	t.Helper()
	want, wantOK := b.p.of(p)
	if handle, ok := b.x.Of(p); handle != want || ok != wantOK {
		t.Fatalf("Of(%v) of %v: %d, %v, want %d, %v", p, b.p, handle, ok, want, wantOK)
	}
}

func (b *both) isOn(t *testing.T, conn, life int) {
	t.Helper()
	if got, want := b.x.On(conn, life), b.p.on(conn, life); !slices.Equal(got, want) {
		t.Fatalf("On(%d, %d) of %v: %v, want %v", conn, life, b.p, got, want)
	}
}

// holds: just these pairs must be kept, by the chapter's words and not by the plain one's alone.
func (b *both) holds(t *testing.T, want ...pair) {
	t.Helper()
	b.tells(t)
	if !slices.Equal(b.p.pairs, want) {
		t.Fatalf("the pairs are %v, want %v", b.p.pairs, want)
	}
}

// at: a place.
func at(conn, life int, id uint32) api.Place { return api.Place{Conn: conn, Life: life, ID: id} }

// beside: the place and those that are unlike it in one number, or have two of its numbers changed for each other. Sums may wrap: those are numbers too.
func beside(p api.Place) []api.Place {
	return []api.Place{
		p,
		at(p.Conn+1, p.Life, p.ID), at(p.Conn-1, p.Life, p.ID), at(p.Conn+1<<32, p.Life, p.ID), at(^p.Conn, p.Life, p.ID), at(-p.Conn, p.Life, p.ID),
		at(p.Conn, p.Life+1, p.ID), at(p.Conn, p.Life-1, p.ID), at(p.Conn, p.Life+1<<32, p.ID), at(p.Conn, ^p.Life, p.ID), at(p.Conn, -p.Life, p.ID),
		at(p.Conn, p.Life, p.ID+1), at(p.Conn, p.Life, p.ID-1), at(p.Conn, p.Life, p.ID+1<<16), at(p.Conn, p.Life, p.ID+1<<31),
		at(p.Life, p.Conn, p.ID), at(int(p.ID), p.Life, uint32(p.Conn)), at(p.Conn, int(p.ID), uint32(p.Life)),
		at(p.Conn+1, p.Life-1, p.ID), at(p.Conn-1, p.Life+1, p.ID),
	}
}

// edges: places of all numbers at their edges, and of some that are alike if one is cut to fewer bits or taken with another sign. The zero place is among them.
func edges() []api.Place {
	numbers := []int{0, 1, 2, -1, 256, 1 << 31, 1 << 32, 1<<32 + 1, math.MaxInt, math.MinInt}
	var all []api.Place
	for _, conn := range numbers {
		for _, life := range numbers {
			for _, id := range []uint32{0, 1, 2, 1 << 16, 1 << 31, math.MaxUint32} {
				all = append(all, at(conn, life, id))
			}
		}
	}
	return all
}

// few: n places, of which those beside each other are alike but for one number; the first is the zero place.
func few(n int) []api.Place {
	var all []api.Place
	for i := range n {
		all = append(all, at(i&1, i>>1&1, uint32(i>>2)))
	}
	return all
}

// bound: the pairs that come of binding these places to a new Handles.
func bound(places []api.Place) []pair {
	var all []pair
	for i, p := range places {
		all = append(all, pair{i + 1, p})
	}
	return all
}

// noHandles: what no test here ever gets as a handle.
var noHandles = []int{
	0, -1, -2, 1<<31 - 1, 1 << 31, 1<<31 + 1, -1 << 31, 1<<32 - 1, 1 << 32, 1<<32 + 1, 1<<63 - 2, math.MaxInt, math.MinInt + 1, math.MinInt,
}

// orders: each order of the numbers 0 to n - 1 goes to use.
func orders(n int, use func(order []int)) {
	var add func(order []int)
	add = func(order []int) {
		if len(order) == n {
			use(order)
		}
		for i := range n {
			if !slices.Contains(order, i) {
				add(append(slices.Clone(order), i))
			}
		}
	}
	add(nil)
}
