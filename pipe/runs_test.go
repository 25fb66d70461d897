package pipe_test

import (
	"bytes"
	"math"
	"runtime"
	"sync"
	"testing"
	"weak"

	"culvert/draws"
	"culvert/pipe"
)

// shortCalls: each call of the short runs; the bytes that are put differ from call to call.
func shortCalls(t *testing.T) []func(b *both) {
	put := func(n int) func(b *both) {
		return func(b *both) {
			begin := len(b.p.taken) % 200
			b.put(t, counted(200 + n)[begin:begin+n])
		}
	}
	move := func(n int) func(b *both) {
		return func(b *both) { b.move(t, n) }
	}
	return []func(b *both){put(0), put(1), put(5), move(0), move(1), move(3), move(math.MaxInt), func(b *both) { b.cut(t) }}
}

func TestP19_6_EveryOrderOfSixCalls(t *testing.T) {
	calls := shortCalls(t)
	for n := range 1 << 18 { // of eight calls each six have a number
		b := made(t)
		for range 6 {
			calls[n%len(calls)](b)
			n /= len(calls)
			b.tells(t)
		}
	}
}

// turn: one drawn call; the more of 64 are puts, the fuller the pipe.
func (b *both) turn(t *testing.T, row *draws.Draws, puts, most int) {
	t.Helper()
	n := row.Below(1 + row.Below(most))
	if row.Below(64) >= puts {
		b.move(t, n-1)
		return
	}
	begin := row.Below(2000)
	b.put(t, counted(2000 + n)[begin:begin+n])
}

// R9: two at once, neither of which hears of the other; one is cut in the midst.
func TestP19_6_LongRunsOfTwoPipes(t *testing.T) {
	for seed := range draws.Draws(60) {
		puts, most := 16+seed.Below(32), 2+seed.Below(200)
		two := [2]*both{made(t), made(t)}
		end := 300 + seed.Below(600)
		for i := range 700 {
			if i == end {
				two[0].cut(t)
			}
			two[seed.Below(2)].turn(t, &seed, puts, most)
			for _, b := range two {
				b.tells(t)
			}
		}
		for _, b := range two {
			b.move(t, math.MaxInt)
			b.tells(t)
		}
	}
}

func TestP19_6_GreatPiecesByteByByte(t *testing.T) {
	b := made(t)
	for _, n := range []int{100_000, 1, 65_536, 2, 3, 1 << 17} {
		b.put(t, counted(n))
	}
	for b.x.Len() > 0 {
		b.move(t, 1)
	}
	if !bytes.Equal(b.p.given, b.p.taken) {
		t.Errorf("%d bytes came out, others than the %d that were put", len(b.p.given), len(b.p.taken))
	}
	b.tells(t)
}

func TestP19_6_ByteByByteIntoOneMove(t *testing.T) {
	b := made(t)
	all := counted(200_000)
	for i := range len(all) {
		b.put(t, all[i:i+1])
	}
	b.says(t, len(all), 0, false)
	b.moves(t, 150_000, all[:150_000])
	b.moves(t, math.MaxInt, all[150_000:])
	b.says(t, 0, uint64(len(all)), false)
}

// putAndMove: weak pointers to what was put and to what Moves answered; of the piece that was put last some bytes stay under way.
func putAndMove(p *pipe.Pipe) []weak.Pointer[byte] {
	in := []byte(counted(300))
	p.Put(in)
	p.Put(in)
	left := []weak.Pointer[byte]{weak.Make(&in[0])}
	for _, n := range []int{100, 200, 100} {
		left = append(left, weak.Make(&p.Move(n)[0]))
	}
	return left
}

func TestR6_NeitherWhatWasPutNorAnswersAreKeptAlive(t *testing.T) {
	p := pipe.New()
	for i, one := range putAndMove(p) {
		runtime.GC()
		if one.Value() != nil {
			t.Errorf("%d of what was handed in and answered is kept", i)
		}
	}
	if n := p.Len(); n != 200 {
		t.Errorf("Len: %d", n)
	}
	runtime.KeepAlive(p)
}

// live: how many bytes the program has, behind a collection.
func live() int {
	runtime.GC()
	runtime.GC()
	var m runtime.MemStats
	runtime.ReadMemStats(&m)
	return int(m.HeapAlloc)
}

// What is kept goes with what is under way: not with what has gone, nor with what was lost, nor with Puts of nothing.
func TestP19_3_WhatHasGoneIsKeptNoMore(t *testing.T) {
	const great = 64 << 20
	for _, c := range []struct {
		what string
		call func(p *pipe.Pipe)
	}{
		{"one Move of all", func(p *pipe.Pipe) { p.Put(make([]byte, great)); p.Move(great) }},
		{"a Move of all but one byte", func(p *pipe.Pipe) { p.Put(make([]byte, great)); p.Move(great - 1) }},
		{"Moves of all but one byte", func(p *pipe.Pipe) {
			p.Put(make([]byte, great))
			for p.Len() > 1<<16 {
				p.Move(1 << 16)
			}
			p.Move(1<<16 - 1)
		}},
		{"Moves of many pieces", func(p *pipe.Pipe) {
			for range 1024 {
				p.Put(make([]byte, great/1024))
			}
			for p.Len() > 0 {
				p.Move(1<<16 + 1)
			}
		}},
		{"a cut", func(p *pipe.Pipe) { p.Put(make([]byte, great)); p.Put(make([]byte, great)); p.Move(1); p.Cut() }},
		{"Puts at a cut pipe", func(p *pipe.Pipe) { p.Cut(); p.Put(make([]byte, great)) }},
		{"Puts of nothing", func(p *pipe.Pipe) {
			for range 1 << 20 {
				p.Put(nil)
			}
		}},
	} {
		before := live()
		p := pipe.New()
		c.call(p)
		if more := live() - before; more > great/16 {
			t.Errorf("%s: %d bytes are kept, while %d are under way", c.what, more, p.Len())
		}
		runtime.KeepAlive(p)
	}
}

// R9: what is told hangs on nothing but the calls.
func TestR9_PipesAtTheSameTime(t *testing.T) {
	var all sync.WaitGroup
	told := make([][]byte, 8)
	for i := range told {
		all.Go(func() {
			p := pipe.New()
			row := draws.Draws(i % 2)
			for range 2000 {
				p.Put([]byte(counted(row.Below(40))))
				told[i] = append(told[i], p.Move(row.Below(40))...)
				told[i] = append(told[i], byte(p.Len()), byte(p.Passed()))
			}
			told[i] = append(told[i], byte(p.Cut()))
		})
	}
	all.Wait()
	for i, list := range told {
		if len(list) == 0 || !bytes.Equal(list, told[i%2]) {
			t.Errorf("number %d tells something else", i)
		}
	}
	if bytes.Equal(told[0], told[1]) {
		t.Error("both rows make the same")
	}
}
