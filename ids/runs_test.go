package ids_test

import (
	"math"
	"runtime"
	"slices"
	"sync"
	"testing"

	"culvert/draws"
	"culvert/ids"
)

// shortCalls: each call of the short runs, at the numbers around the first that this end gives out.
func shortCalls(t *testing.T, first int) []func(b *both) {
	calls := []func(b *both){func(b *both) { b.next(t) }}
	for off := -2; off <= 4; off++ {
		id := uint32(first + off)
		calls = append(calls, func(b *both) { b.send(t, id) }, func(b *both) { b.hear(t, id) })
	}
	return calls
}

func TestP14_1_EveryOrderOfFourCalls(t *testing.T) {
	for _, client := range []bool{true, false} {
		for _, skip := range []int{0, 1, most - 1, most} {
			calls := shortCalls(t, (&plain{client: client}).number(skip))
			for n := range len(calls) * len(calls) * len(calls) * len(calls) {
				b := made(t, client, skip)
				for range 4 {
					calls[n%len(calls)](b)
					n /= len(calls)
				}
				b.tells(t)
			}
		}
	}
}

// watched is an IDs with all that it has ever known, and its marks.
type watched struct {
	*both
	known        map[uint32]int
	mine, theirs uint32
}

func watch(t *testing.T, client bool, skip int) *watched {
	t.Helper()
	return &watched{both: made(t, client, skip), known: map[uint32]int{}}
}

// keeps: P14.4: what was known is known, and the marks have not fallen.
func (w *watched) keeps(t *testing.T) {
	t.Helper()
	mine, theirs := w.x.Marks()
	if mine < w.mine || theirs < w.theirs {
		t.Fatalf("the marks were %d, %d, and are %d, %d", w.mine, w.theirs, mine, theirs)
	}
	w.mine, w.theirs = mine, theirs
	for id := range w.known {
		if !w.x.Known(id) {
			t.Fatalf("%d was known, and isn't at %v", id, w.p)
		}
	}
	for _, id := range w.edges() {
		if w.x.Known(id) {
			w.known[id]++
		}
	}
}

// call: one drawn call, most of them near to what may be.
func (w *watched) call(t *testing.T, row *draws.Draws) {
	t.Helper()
	edges := w.edges()
	drawn := edges[row.Below(len(edges))]
	switch row.Below(6) {
	case 0, 1:
		w.next(t)
	case 2:
		w.send(t, drawn)
	case 3:
		if drawn < 1<<20 || row.Below(50) == 0 { // one that is great leaves nothing to hear behind it
			w.hear(t, drawn)
		}
	case 4:
		count := w.p.skip + row.Below(w.p.given+2)
		w.send(t, uint32(w.p.number(count)))
	default:
		w.hear(t, greatest(w.p.heard)+uint32(row.Below(6)))
	}
}

// R9: two at once, neither of which hears of the other.
func TestP14_4_LongRunsOfTwoKeepWhatIsKnown(t *testing.T) {
	for seed := range draws.Draws(80) {
		var both [2]*watched
		for i := range both {
			both[i] = watch(t, seed.Below(2) == 0, skips[seed.Below(len(skips))])
		}
		for range 250 {
			both[seed.Below(2)].call(t, &seed)
			for _, w := range both {
				w.tells(t)
				w.keeps(t)
			}
		}
	}
}

// talk: of what the one gives out some is sent, and heard by the other; which, hangs on the row. What was sent is answered.
func talk(t *testing.T, here, there *both, row *draws.Draws) []uint32 {
	t.Helper()
	var under, sent []uint32 // under way, and heard too
	for range 200 {
		id, err := here.next(t)
		if err != nil {
			break
		}
		if there.x.Mine(id) || !here.x.Mine(id) {
			t.Fatalf("%d was given out at %v, and is Mine at %v", id, here.p, there.p)
		}
		if row.Below(3) > 0 { // else it is left out
			is(t, "Sent of what was given out", here.send(t, id), nil)
			under = append(under, id)
		}
		for len(under) > 0 && row.Below(2) == 0 { // what is heard comes behind what is sent
			is(t, "Hear of what was sent", there.hear(t, under[0]), nil)
			sent, under = append(sent, under[0]), under[1:]
			agree(t, here, there, sent)
		}
	}
	for _, id := range under {
		is(t, "Hear of what was sent", there.hear(t, id), nil)
		sent = append(sent, id)
	}
	agree(t, here, there, sent)
	return sent
}

// agree: both know what was sent here and heard there, and what is below it.
func agree(t *testing.T, here, there *both, sent []uint32) {
	t.Helper()
	for _, id := range sent {
		if !here.x.Known(id) || !there.x.Known(id) {
			t.Fatalf("Known(%d): %v here, %v there", id, here.x.Known(id), there.x.Known(id))
		}
		for below := id; below > 2 && below > id-20; below -= 2 {
			if here.x.Known(below) != there.x.Known(below) {
				t.Fatalf("Known(%d): %v here, %v there", below, here.x.Known(below), there.x.Known(below))
			}
		}
	}
}

func TestP14_3_WhatOneGivesOutTheOtherHears(t *testing.T) {
	for seed := range draws.Draws(40) {
		client := made(t, true, skips[seed.Below(len(skips))])
		server := made(t, false, skips[seed.Below(len(skips))])
		for range 3 {
			up := talk(t, client, server, &seed)
			down := talk(t, server, client, &seed)
			for _, id := range up {
				if slices.Contains(down, id) {
					t.Fatalf("both have opened %d", id)
				}
			}
			agree(t, client, server, up)
			agree(t, server, client, down)
		}
		mineAtClient, theirsAtClient := client.x.Marks()
		mineAtServer, theirsAtServer := server.x.Marks()
		if mineAtClient != theirsAtServer || mineAtServer != theirsAtClient {
			t.Fatalf("the marks: %d, %d at the client, %d, %d at the server", mineAtClient, theirsAtClient, mineAtServer, theirsAtServer)
		}
	}
}

// Every choice of what is left out of the first and of the last eight numbers.
func TestP14_3_WithAnyLeftOut(t *testing.T) {
	for choice := range 1 << 8 {
		for _, skip := range []int{0, most - 7} { // the server has seven left there
			client, server := made(t, true, skip), made(t, false, skip)
			for n := range 8 {
				up, _ := client.next(t)
				down, err := server.next(t)
				if server.x.Mine(up) || client.x.Mine(down) {
					t.Fatalf("%d and %d are Mine at the other end", up, down)
				}
				if choice>>n&1 == 0 {
					continue
				}
				is(t, "the client's Sent", client.send(t, up), nil)
				is(t, "the server's Hear", server.hear(t, up), nil)
				if err == nil {
					is(t, "the server's Sent", server.send(t, down), nil)
					is(t, "the client's Hear", client.hear(t, down), nil)
					agree(t, server, client, []uint32{down})
				}
				agree(t, client, server, []uint32{up})
				client.tells(t)
				server.tells(t)
			}
		}
	}
}

// Every number is Mine at one end or the other, and at one alone; 0 is nobody's.
func TestP14_3_NoNumberIsOfBothEnds(t *testing.T) {
	client, server := made(t, true, 0), made(t, false, 5)
	for id := uint64(0); id <= math.MaxUint32; id += 4093 { // a prime: of both parities, and far apart
		for _, near := range []uint32{uint32(id), uint32(math.MaxUint32 - id)} {
			if near != 0 && client.x.Mine(near) == server.x.Mine(near) {
				t.Fatalf("Mine(%d): %v at both", near, client.x.Mine(near))
			}
		}
	}
	if client.x.Mine(0) || server.x.Mine(0) {
		t.Error("0 is Mine")
	}
}

// live: how many bytes the program has, behind a collection.
func live() int {
	runtime.GC()
	runtime.GC()
	var m runtime.MemStats
	runtime.ReadMemStats(&m)
	return int(m.HeapAlloc)
}

// F9: no list of numbers is kept: however many go through, nothing more is held. (Bytes are looked at and not how often memory is laid out, since the runtime lays out some of its own at any time.)
func TestF9_NothingGrows(t *testing.T) {
	const many = 1 << 20
	client, err := ids.New(true, 0)
	if err != nil {
		t.Fatal(err)
	}
	before := live()
	for heard := uint32(2); heard <= 2*many; heard += 2 {
		id, err := client.Next()
		if err != nil || client.Sent(id) != nil || client.Hear(heard) != nil || !client.Known(id) || !client.Known(heard) || client.Known(id+2) {
			t.Fatalf("at %d and %d", id, heard)
		}
	}
	if more := live() - before; more >= many/8 { // a bit for each number of one end would be so much
		t.Errorf("%d bytes are kept behind %d numbers", more, many)
	}
	if mine, theirs := client.Marks(); mine != 2*many-1 || theirs != 2*many || client.Left() != 1<<31-many {
		t.Errorf("Marks %d, %d, Left %d", mine, theirs, client.Left())
	}
	runtime.KeepAlive(client)
}

// R9: nothing is kept beside the objects.
func TestR9_IDsAtTheSameTime(t *testing.T) {
	type end struct {
		mine, theirs uint32
		left         int
	}
	var all sync.WaitGroup
	ends := make([]end, 8)
	for i := range ends {
		all.Go(func() {
			x, err := ids.New(i%2 == 0, i%2)
			if err != nil {
				return // it is told below
			}
			row := draws.Draws(i % 2)
			for range 5000 {
				id, _ := x.Next()
				x.Sent(id - uint32(row.Below(3)))
				x.Hear(uint32(row.Below(10_000)))
			}
			ends[i].mine, ends[i].theirs = x.Marks()
			ends[i].left = x.Left()
		})
	}
	all.Wait()
	for i, e := range ends {
		if e != ends[i%2] || e.mine == 0 || e.theirs == 0 || e.left != 1<<31-5000-2*(i%2) {
			t.Errorf("number %d: %v, not %v", i, e, ends[i%2])
		}
	}
}
