package pipe_test

import (
	"bytes"
	"math"
	"slices"
	"strings"
	"testing"

	"culvert/api"
	"culvert/pipe"
	"culvert/sentinels"
	"culvert/specimens"
)

// puts: a Put that must end so.
func puts(t *testing.T, p *pipe.Pipe, b []byte, want int, wantErr error) {
	t.Helper()
	if n, err := p.Put(b); n != want || !sentinels.Just(err, wantErr) {
		t.Fatalf("Put(%x): %d, %v, want %d, %v", b, n, err, want, wantErr)
	}
}

// The chapter's examples, in their order.
func TestP19_1_Examples(t *testing.T) {
	p := pipe.New()
	moves := func(n int, want ...byte) {
		t.Helper()
		if got := p.Move(n); !bytes.Equal(got, want) {
			t.Errorf("Move(%d): %x, want %x", n, got, want)
		}
	}
	puts(t, p, []byte{1, 2, 3}, 3, nil)
	puts(t, p, []byte{4}, 1, nil)
	if n := p.Len(); n != 4 {
		t.Errorf("Len: %d", n)
	}
	moves(2, 1, 2)
	moves(0)
	moves(-1)
	moves(9, 3, 4)
	if n := p.Passed(); n != 4 {
		t.Errorf("Passed: %d", n)
	}
	puts(t, p, []byte{5, 6}, 2, nil)
	if n := p.Cut(); n != 2 {
		t.Errorf("Cut: %d", n)
	}
	if !p.Broken() {
		t.Error("Broken: false")
	}
	if n := p.Cut(); n != 0 {
		t.Errorf("Cut again: %d", n)
	}
	moves(1)
	puts(t, p, []byte{7}, 0, api.ErrCut)
	if n := p.Passed(); n != 4 {
		t.Errorf("Passed: %d", n)
	}
}

func TestP19_1_NewIsEmptyAndNotCut(t *testing.T) {
	b := made(t)
	b.says(t, 0, 0, false)
	for _, n := range []int{math.MinInt, -1, 0, 1, 1 << 32, math.MaxInt} {
		b.moves(t, n, "")
		b.says(t, 0, 0, false)
	}
	if pipe.New() == b.x {
		t.Error("New answers one pipe twice")
	}
}

func TestP19_2_AllBytesAreUnderWayBehindAllOthers(t *testing.T) {
	b := made(t)
	b.put(t, "abc")
	b.put(t, "d")
	b.says(t, 4, 0, false)
	b.moves(t, 1, "a")
	b.put(t, "ef")
	b.moves(t, 4, "bcde")
	b.put(t, "gh")
	b.says(t, 3, 5, false)
	b.moves(t, math.MaxInt, "fgh")
	b.put(t, "i")
	b.moves(t, math.MaxInt, "i")
	b.says(t, 0, 9, false)
}

func TestP19_2_EachByteGoesThroughAsItIs(t *testing.T) {
	b := made(t)
	for v := range 256 {
		b.put(t, string([]byte{byte(v)}))
	}
	for v := range 256 {
		b.moves(t, 1, string([]byte{byte(v)}))
	}
}

// An empty list, nil or not, changes nothing and is answered 0 (R5).
func TestP19_2_AnEmptyPut(t *testing.T) {
	for _, empty := range [][]byte{nil, {}, []byte("abc")[:0]} {
		for _, pieces := range [][]string{nil, {"abc"}, {"ab", "c"}} {
			b := made(t, pieces...)
			puts(t, b.x, empty, 0, nil)
			b.tells(t)
			b.moves(t, 1, strings.Join(pieces, "")[:min(1, len(pieces))])
			puts(t, b.x, empty, 0, nil)
			b.put(t, "xy")
			puts(t, b.x, empty, 0, nil)
			b.tells(t)
			b.move(t, math.MaxInt)
			puts(t, b.x, empty, 0, nil)
			b.tells(t)
			b.cut(t)
			puts(t, b.x, empty, 0, api.ErrCut)
			b.tells(t)
		}
	}
}

func TestP19_2_HowManyBytesAreTakenHasNoBound(t *testing.T) {
	b := made(t)
	great := counted(api.MaxOut + api.MaxFrame + api.HeaderSize + 1) // more than a session has to be taken
	for i := range 5 {
		if n, err := b.put(t, great); n != len(great) || err != nil {
			t.Fatalf("Put number %d: %d, %v", i, n, err)
		}
	}
	b.says(t, 5*len(great), 0, false)
	b.moves(t, math.MaxInt, strings.Repeat(great, 5))
}

func TestP19_2_ACutPipeTakesNothing(t *testing.T) {
	for _, pieces := range [][]string{nil, {"a"}, {"abc", "de"}} {
		b := made(t, pieces...)
		b.move(t, 1)
		b.cut(t)
		for range 3 {
			for _, piece := range []string{"", "x", "abc", counted(1000)} {
				if n, err := b.put(t, piece); n != 0 || err != api.ErrCut {
					t.Fatalf("Put of %d bytes: %d, %v", len(piece), n, err)
				}
				b.says(t, 0, uint64(min(1, len(pieces))), true)
				b.moves(t, math.MaxInt, "")
			}
		}
	}
}

// Each two Moves that follow one another, of each cutting into pieces, and what is left.
func TestP19_3_EachTwoMovesOfEachCutting(t *testing.T) {
	const all = "abcdefgh"
	cuttings(all, func(pieces []string) {
		for first := -1; first <= len(all)+1; first++ {
			for second := -1; second <= len(all)+1; second++ {
				b := made(t, pieces...)
				at := 0
				for _, n := range []int{first, second, math.MaxInt} {
					end := at + min(max(n, 0), len(all)-at)
					b.moves(t, n, all[at:end])
					b.says(t, len(all)-end, uint64(end), false)
					at = end
				}
			}
		}
	})
}

func TestP19_3_MoveAtTheEdges(t *testing.T) {
	for _, c := range []struct{ n, want int }{
		{math.MinInt, 0}, {math.MinInt + 1, 0}, {-1 << 32, 0}, {-1<<32 + 1, 0}, {-1, 0}, {0, 0}, {1, 1},
		{4, 4}, {5, 5}, {6, 5}, {255, 5}, {256, 5}, {1 << 31, 5}, {1 << 32, 5}, {1<<32 + 1, 5}, {math.MaxInt - 1, 5}, {math.MaxInt, 5},
	} {
		for _, pieces := range [][]string{{"abcdefg"}, {"abc", "defg"}, {"ab", "cdefg"}, {"a", "b", "c", "d", "e", "f", "g"}} {
			b := made(t, pieces...)
			b.moves(t, 2, "ab")
			b.moves(t, c.n, "cdefg"[:c.want])
			b.says(t, 5-c.want, uint64(2+c.want), false)
			b.moves(t, math.MaxInt, "cdefg"[c.want:])
			b.says(t, 0, 7, false)
		}
	}
}

func TestP19_4_LenAndPassedAtEachByte(t *testing.T) {
	const all = "abcdefgh"
	cuttings(all, func(pieces []string) {
		b := made(t)
		for _, piece := range pieces {
			before := b.x.Len()
			b.put(t, piece)
			b.says(t, before+len(piece), 0, false)
		}
		for i := range len(all) {
			b.says(t, len(all)-i, uint64(i), false)
			b.moves(t, 1, all[i:i+1])
		}
		b.says(t, 0, uint64(len(all)), false)
	})
}

// What is asked changes nothing, however often it is.
func TestP19_4_AskingChangesNothing(t *testing.T) {
	for _, cut := range []bool{false, true} {
		b := made(t, "abc", "de")
		b.moves(t, 4, "abcd")
		if cut {
			b.cut(t)
		}
		for range 5 {
			b.tells(t)
		}
		b.move(t, 9)
		b.tells(t)
	}
}

func TestP19_5_WhatIsUnderWayIsLost(t *testing.T) {
	const all = "abcdef"
	cuttings(all, func(pieces []string) {
		for moved := range len(all) + 1 {
			b := made(t, pieces...)
			b.moves(t, moved, all[:moved])
			if n := b.cut(t); n != len(all)-moved {
				t.Fatalf("Cut behind %d of %q: %d", moved, pieces, n)
			}
			for range 3 {
				b.says(t, 0, uint64(moved), true)
				for _, n := range []int{math.MinInt, -1, 0, 1, 6, math.MaxInt} {
					b.moves(t, n, "")
				}
				if n := b.cut(t); n != 0 {
					t.Fatalf("Cut again: %d", n)
				}
			}
		}
	})
}

func TestP19_5_APipeIsCutThatNeverHadAByte(t *testing.T) {
	b := made(t)
	if n := b.cut(t); n != 0 {
		t.Errorf("Cut: %d", n)
	}
	b.says(t, 0, 0, true)
	if n, err := b.put(t, "a"); n != 0 || err != api.ErrCut {
		t.Errorf("Put: %d, %v", n, err)
	}
}

// The pieces in which bytes are put are told by no answer, however they are moved.
func TestP19_6_ThePiecesDoNotMatter(t *testing.T) {
	const all = "abcdefg"
	cuttings(all, func(in []string) {
		cuttings(all, func(out []string) {
			b := made(t, in...)
			for _, piece := range out {
				b.moves(t, len(piece), piece)
				b.tells(t)
			}
			b.says(t, 0, uint64(len(all)), false)
		})
	})
}

// The same, but each Move is made as soon as its bytes are there.
func TestP19_6_MovesAmongPuts(t *testing.T) {
	const all = "abcdefg"
	cuttings(all, func(in []string) {
		cuttings(all, func(out []string) {
			b := made(t)
			left := out
			for _, piece := range in {
				b.put(t, piece)
				for len(left) > 0 && len(left[0]) <= b.x.Len() {
					b.moves(t, len(left[0]), left[0])
					left = left[1:]
				}
				b.tells(t)
			}
			b.says(t, 0, uint64(len(all)), false)
			if string(b.p.given) != all {
				t.Fatalf("Moves gave %q", b.p.given)
			}
		})
	})
}

func TestR2_TheErrorsInTheirOrder(t *testing.T) {
	var none *pipe.Pipe
	none.Cut() // it isn't cut by that
	cut := pipe.New()
	cut.Cut()
	for _, b := range [][]byte{nil, {}, {1}, make([]byte, 1000)} {
		puts(t, none, b, 0, api.ErrNil)
		puts(t, cut, b, 0, api.ErrCut)
		puts(t, pipe.New(), b, len(b), nil)
	}
}

func TestR4_APutThatFailsChangesNothing(t *testing.T) {
	for moved := range 6 {
		b := made(t, "abc", "de")
		b.move(t, moved)
		b.cut(t)
		for range 3 {
			if n, err := b.put(t, "xyz"); n != 0 || err != api.ErrCut {
				t.Fatalf("Put: %d, %v", n, err)
			}
			b.says(t, 0, uint64(moved), true)
			b.moves(t, 9, "")
			if n := b.cut(t); n != 0 {
				t.Fatalf("Cut: %d", n)
			}
		}
	}
}

func TestR6_WhatIsHandedInStaysAndIsNotKept(t *testing.T) {
	room := []byte("ahead of it, abc, and behind it")
	before := slices.Clone(room)
	b := made(t)
	puts(t, b.x, room[13:16], 3, nil)
	puts(t, b.x, room[13:15], 2, nil)
	if got := b.x.Move(1); string(got) != "a" {
		t.Fatalf("Move(1): %q", got)
	}
	if !bytes.Equal(room, before) {
		t.Errorf("the room of what was handed in was made %q", room)
	}
	specimens.Spoil(room)
	if got := b.x.Move(9); string(got) != "bcab" {
		t.Errorf("Move(9): %q behind writing over what was handed in", got)
	}
}

// Each answer is written over, spare room too, ahead of each later one.
func TestR6_WhatMoveAnswersIsNew(t *testing.T) {
	all := counted(60)
	for piece := 1; piece <= 30; piece++ {
		for size := 1; size <= len(all); size++ {
			b := made(t)
			for at := 0; at < len(all); at += piece {
				b.put(t, all[at:min(at+piece, len(all))])
			}
			var answers [][]byte
			for at := 0; at < len(all); at += size {
				got := b.x.Move(size)
				if want := all[at:min(at+size, len(all))]; string(got) != want {
					t.Fatalf("pieces of %d, Moves of %d, at %d: %x, want %x", piece, size, at, got, want)
				}
				kept := slices.Clone(got)
				for _, earlier := range answers {
					specimens.Spoil(earlier)
				}
				if !bytes.Equal(got, kept) {
					t.Fatalf("pieces of %d, Moves of %d, at %d: an answer shares memory with one ahead of it", piece, size, at)
				}
				specimens.Spoil(got)
				answers = append(answers, got)
			}
		}
	}
}

// What was answered stays as it was, whatever becomes of the pipe.
func TestR6_AnAnswerStays(t *testing.T) {
	for n := 1; n <= 6; n++ {
		b := made(t, "abc", "def")
		got := b.x.Move(n)
		b.x.Put([]byte("XYZUVW"))
		b.x.Move(2)
		b.x.Cut()
		b.x.Put([]byte("XYZUVW"))
		if string(got) != "abcdef"[:n] {
			t.Errorf("what Move(%d) answered has become %q", n, got)
		}
	}
}

func TestR7_ANilPipeIsAnEmptyOne(t *testing.T) {
	var p *pipe.Pipe
	for range 2 {
		for _, b := range [][]byte{nil, {}, {1, 2}} {
			puts(t, p, b, 0, api.ErrNil)
		}
		for _, n := range []int{math.MinInt, -1, 0, 1, math.MaxInt} {
			if got := p.Move(n); len(got) != 0 {
				t.Errorf("Move(%d): %x", n, got)
			}
		}
		if p.Len() != 0 || p.Passed() != 0 || p.Broken() {
			t.Errorf("Len %d, Passed %d, Broken %v", p.Len(), p.Passed(), p.Broken())
		}
		if n := p.Cut(); n != 0 { // and it isn't cut by that
			t.Errorf("Cut: %d", n)
		}
	}
}
