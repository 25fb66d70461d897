package out_test

import (
	"bytes"
	"math"
	"runtime"
	"slices"
	"strings"
	"testing"
	"weak"

	"culvert/api"
	"culvert/draws"
	"culvert/frame"
	"culvert/out"
	"culvert/sentinels"
	"culvert/specimens"
)

// The chapter's frames.
func frameF() api.Frame { return specimens.Data(0, 1, "abc") }
func frameP() api.Frame { return specimens.Bare(api.TypePing, api.FlagSYN, 0, 7) }

const (
	bytesF = "\x00\x00\x00\x00\x00\x00\x00\x01\x00\x00\x00\x03abc"
	bytesP = "\x00\x02\x00\x01\x00\x00\x00\x00\x00\x00\x00\x07"
)

// put: a Put that must end so.
func put(t *testing.T, b *out.Buffer, f api.Frame, want error) {
	t.Helper()
	if err := b.Put(f); !sentinels.Just(err, want) {
		t.Fatalf("Put(%+v, %d bytes): %v, want %v", f.Head, len(f.Data), err, want)
	}
}

// filled: a new buffer into which these frames were put.
func filled(t *testing.T, frames ...api.Frame) *out.Buffer {
	t.Helper()
	b := out.New()
	if b == nil {
		t.Fatal("New: nil")
	}
	for _, f := range frames {
		put(t, b, f, nil)
	}
	return b
}

// tells: Len and Frames must be these.
func tells(t *testing.T, b *out.Buffer, bytes, frames int) {
	t.Helper()
	if b.Len() != bytes || b.Frames() != frames {
		t.Fatalf("Len %d, Frames %d, want %d, %d", b.Len(), b.Frames(), bytes, frames)
	}
}

// takes: Take must answer this.
func takes(t *testing.T, b *out.Buffer, n int, want string) {
	t.Helper()
	if got := b.Take(n); string(got) != want {
		t.Fatalf("Take(%d): %x, want %x", n, got, want)
	}
}

func TestP6_1_NewHoldsNothing(t *testing.T) {
	b := filled(t)
	tells(t, b, 0, 0)
	for _, n := range []int{math.MinInt, -1, 0, 1, 12, math.MaxInt} {
		takes(t, b, n, "")
	}
	if n := b.Clear(); n != 0 {
		t.Errorf("Clear: %d", n)
	}
	tells(t, b, 0, 0)
}

func TestP6_2_TheBytesStandBehindAllOthers(t *testing.T) {
	b := filled(t, frameF())
	put(t, b, frameP(), nil)
	takes(t, b, 5, bytesF[:5])
	put(t, b, frameF(), nil)
	takes(t, b, math.MaxInt, bytesF[5:]+bytesP+bytesF)
	put(t, b, frameP(), nil)
	takes(t, b, math.MaxInt, bytesP)
}

func TestP6_2_ItFailsAsFramesBytesDoes(t *testing.T) {
	payloads := []string{"", "a", "ab", "abc", strings.Repeat("x", 255), strings.Repeat("x", 256)}
	for kind := range uint8(6) {
		for _, length := range []uint32{0, 1, 2, 3, 4, 255, 256, 257, 1 << 31, 1<<32 - 1} {
			for _, payload := range payloads {
				f := specimens.Bare(kind, 0, 1, length)
				f.Data = []byte(payload)
				b := filled(t, frameF())
				b.Take(2)
				all, want := frame.Bytes(f)
				put(t, b, f, want)
				if want != nil {
					tells(t, b, 13, 1)
				} else {
					tells(t, b, 13+len(all), 2)
				}
				takes(t, b, math.MaxInt, bytesF[2:]+string(all))
			}
		}
	}
}

// The second of the chapter's examples.
func TestP6_2_AnExampleOfAPutThatFails(t *testing.T) {
	bad := frameF()
	bad.Head.Length = 4
	for _, b := range []*out.Buffer{filled(t), filled(t, frameF()), filled(t, frameP(), frameF())} {
		bytes, frames := b.Len(), b.Frames()
		put(t, b, bad, api.ErrLength)
		tells(t, b, bytes, frames)
	}
}

// Whether a header may be isn't this layer's to ask: frame.Bytes writes it all the same.
func TestP6_2_HeadersThatMayNotBeArePutToo(t *testing.T) {
	for _, h := range []api.Header{
		{Version: 255, Type: api.TypeWindow, Stream: 1},
		{Type: 255, Flags: math.MaxUint16, Stream: math.MaxUint32, Length: math.MaxUint32},
		{Type: api.TypePing, Flags: 77, Stream: 5, Length: 9},
		{Type: api.TypeAway, Length: 3},
		{Type: api.TypeData},
	} {
		b := filled(t, api.Frame{Head: h})
		tells(t, b, 12, 1)
		takes(t, b, 12, string(frame.Encode(h)))
	}
}

func TestP6_2_HowMuchMayWaitIsNotBoundedHere(t *testing.T) {
	b := out.New()
	great := specimens.Data(0, 1, strings.Repeat("great", api.MaxFrame)) // more than a frame may have at any end
	for i := range 8 {
		tells(t, b, i*(12+5*api.MaxFrame), i)
		put(t, b, great, nil)
	}
	if b.Len() <= api.MaxOut {
		t.Fatalf("%d bytes wait: no more than MaxOut", b.Len())
	}
	if got := b.Take(math.MaxInt); !bytes.Equal(got, bytes.Repeat(specimens.Bytes(great), 8)) {
		t.Errorf("Take: %d bytes, others than were put", len(got))
	}
	tells(t, b, 0, 0)
}

// The first of the chapter's examples.
func TestP6_3_TheChaptersExample(t *testing.T) {
	b := filled(t, frameF(), frameP())
	tells(t, b, 27, 2)
	takes(t, b, 14, bytesF[:14])
	tells(t, b, 13, 2)
	takes(t, b, 1, "c")
	tells(t, b, 12, 1)
	takes(t, b, 0, "")
	takes(t, b, -3, "")
	tells(t, b, 12, 1)
	takes(t, b, 100, bytesP)
	tells(t, b, 0, 0)
}

// plainFrames: how many of F, P and F wait when so many of their bytes were taken.
func plainFrames(taken int) int {
	frames := 0
	for _, end := range []int{15, 27, 42} {
		if taken < end {
			frames++
		}
	}
	return frames
}

// Each two Takes that follow one another of a buffer with three frames, and what is left.
func TestP6_3_EachCutting(t *testing.T) {
	const all = bytesF + bytesP + bytesF
	for first := -1; first <= len(all)+1; first++ {
		for second := -1; second <= len(all)+1; second++ {
			b := filled(t, frameF(), frameP(), frameF())
			at := 0
			for _, n := range []int{first, second, math.MaxInt} {
				end := at + min(max(n, 0), len(all)-at)
				takes(t, b, n, all[at:end])
				tells(t, b, len(all)-end, plainFrames(end))
				at = end
			}
		}
	}
}

func TestP6_3_TakeAtTheEdges(t *testing.T) {
	for _, c := range []struct{ n, want int }{
		{math.MinInt, 0}, {math.MinInt + 1, 0}, {-1 << 32, 0}, {-1, 0}, {0, 0}, {1, 1},
		{21, 21}, {22, 22}, {23, 22}, {1 << 32, 22}, {1<<32 + 1, 22}, {math.MaxInt - 1, 22}, {math.MaxInt, 22},
	} {
		b := filled(t, frameF(), frameP())
		takes(t, b, 5, bytesF[:5])
		rest := (bytesF + bytesP)[5:]
		takes(t, b, c.n, rest[:c.want])
		takes(t, b, math.MaxInt, rest[c.want:])
	}
}

func TestP6_4_LenAndFramesAtEachByte(t *testing.T) {
	b := filled(t, frameF(), frameP(), frameF())
	for taken := range 42 {
		tells(t, b, 42-taken, plainFrames(taken))
		takes(t, b, 1, (bytesF + bytesP + bytesF)[taken:taken+1])
	}
	tells(t, b, 0, 0)
}

func TestP6_4_FramesThatArePutBehindAPieceOfOne(t *testing.T) {
	b := filled(t, frameF())
	for i := range 14 {
		b.Take(1)
		put(t, b, frameP(), nil)
		tells(t, b, 14-i+12*(i+1), i+2)
	}
	b.Take(1)
	tells(t, b, 14*12, 14)
}

// The third of the chapter's examples.
func TestP6_5_TheChaptersExample(t *testing.T) {
	b := filled(t, frameP())
	takes(t, b, 5, bytesP[:5])
	if n := b.Clear(); n != 7 {
		t.Errorf("Clear: %d, want 7", n)
	}
	if n := b.Clear(); n != 0 {
		t.Errorf("Clear of nothing: %d", n)
	}
}

func TestP6_5_NothingIsHeldAnyMore(t *testing.T) {
	for taken := range 43 {
		b := filled(t, frameF(), frameP(), frameF())
		b.Take(taken)
		if n := b.Clear(); n != 42-taken {
			t.Errorf("Clear behind %d bytes of 42: %d", taken, n)
		}
		tells(t, b, 0, 0)
		takes(t, b, math.MaxInt, "")
		put(t, b, frameP(), nil)
		put(t, b, frameF(), nil)
		tells(t, b, 27, 2)
		takes(t, b, 13, bytesP+bytesF[:1])
		tells(t, b, 14, 1)
		if n := b.Clear(); n != 14 {
			t.Errorf("Clear once more: %d, want 14", n)
		}
	}
}

// run is a buffer, and what it must hold: of each frame the bytes that wait.
type run struct {
	b    *out.Buffer
	left [][]byte
}

func (r *run) put(t *testing.T, d *draws.Draws) {
	f := specimens.Drawn(d, 1+d.Below(40))
	if d.Below(4) == 0 {
		f.Data = append(f.Data, 'x') // one byte more than its header says
		put(t, r.b, f, api.ErrLength)
		return
	}
	put(t, r.b, f, nil)
	r.left = append(r.left, specimens.Bytes(f))
	specimens.Spoil(f.Data)
}

func (r *run) take(t *testing.T, d *draws.Draws) {
	n := d.Below(1+d.Below(80)) - 2
	var want []byte
	for len(want) < n && len(r.left) > 0 {
		first := r.left[0]
		piece := min(n-len(want), len(first))
		want = append(want, first[:piece]...)
		r.left[0] = first[piece:]
		if len(r.left[0]) == 0 {
			r.left = r.left[1:]
		}
	}
	takes(t, r.b, n, string(want))
}

func (r *run) clear(t *testing.T) {
	held := len(slices.Concat(r.left...))
	if n := r.b.Clear(); n != held {
		t.Fatalf("Clear: %d, want %d", n, held)
	}
	r.left = nil
}

// Two buffers at once, so that nothing of the one may hang on the other (R9).
func TestP6_6_LongRunsAgainstPlainLists(t *testing.T) {
	d := draws.Draws(66)
	for range 20 {
		runs := []*run{{b: out.New()}, {b: out.New()}}
		puts := 1 + d.Below(9) // of ten calls: so that some buffers grow and others are mostly empty
		for range 3000 {
			r := runs[d.Below(2)]
			switch {
			case d.Below(300) == 0:
				r.clear(t)
			case d.Below(10) < puts:
				r.put(t, &d)
			default:
				r.take(t, &d)
			}
			tells(t, r.b, len(slices.Concat(r.left...)), len(r.left))
		}
		for _, r := range runs {
			takes(t, r.b, math.MaxInt, string(slices.Concat(r.left...)))
		}
	}
}

func TestP6_6_ByteByByteAllComesOut(t *testing.T) {
	d := draws.Draws(67)
	b := out.New()
	var all, got []byte
	for range 500 {
		f := specimens.Drawn(&d, 3000)
		put(t, b, f, nil)
		all = append(all, specimens.Bytes(f)...)
	}
	for b.Len() > 0 {
		got = append(got, b.Take(1)...)
	}
	if !bytes.Equal(got, all) {
		t.Errorf("%d bytes came out, others than the %d that were put", len(got), len(all))
	}
}

func TestR4_APutThatFailsChangesNothing(t *testing.T) {
	bad := frameP()
	bad.Data = []byte("x")
	for taken := range 28 {
		b := filled(t, frameF(), frameP())
		b.Take(taken)
		bytes, frames := b.Len(), b.Frames()
		put(t, b, bad, api.ErrLength)
		tells(t, b, bytes, frames)
		put(t, b, frameP(), nil)
		takes(t, b, math.MaxInt, (bytesF + bytesP)[taken:]+bytesP)
	}
}

func TestR6_WhatIsHandedInStaysAndIsNotKept(t *testing.T) {
	room := []byte("ahead of it, abc, and behind it")
	before := slices.Clone(room)
	f := frameF()
	f.Data = room[13:16]
	b := filled(t, f, f)
	takes(t, b, 13, bytesF[:13])
	if !bytes.Equal(room, before) {
		t.Errorf("the room of the payload was made %q", room)
	}
	specimens.Spoil(room)
	takes(t, b, math.MaxInt, bytesF[13:]+bytesF)
}

func TestR6_WhatTakeAnswersIsNew(t *testing.T) {
	const all = bytesF + bytesP + bytesF
	for size := 1; size <= len(all); size++ {
		b := filled(t, frameF(), frameP(), frameF())
		var answers [][]byte
		for at := 0; at < len(all); at += size {
			got := b.Take(size)
			if want := all[at:min(at+size, len(all))]; string(got) != want {
				t.Fatalf("pieces of %d, at %d: %x, want %x", size, at, got, want)
			}
			for _, earlier := range answers {
				kept := slices.Clone(got)
				specimens.Spoil(earlier)
				if !bytes.Equal(got, kept) {
					t.Fatalf("pieces of %d, at %d: an answer shares memory with one ahead of it", size, at)
				}
			}
			specimens.Spoil(got)
			answers = append(answers, got)
		}
		put(t, b, frameF(), nil)
		for _, earlier := range answers {
			specimens.Spoil(earlier)
		}
		takes(t, b, math.MaxInt, bytesF)
	}
}

// putAndTake: weak pointers to a payload that was put, and to what Takes answered; the last one takes a piece of the frame that goes on waiting.
func putAndTake(t *testing.T, b *out.Buffer) []weak.Pointer[byte] {
	f := specimens.Data(0, 1, strings.Repeat("x", 300))
	put(t, b, f, nil)
	put(t, b, f, nil)
	left := []weak.Pointer[byte]{weak.Make(&f.Data[0])}
	for _, n := range []int{100, 300, 100} {
		left = append(left, weak.Make(&b.Take(n)[0]))
	}
	return left
}

func TestR6_NeitherPayloadsNorAnswersAreKeptAlive(t *testing.T) {
	b := out.New()
	for i, p := range putAndTake(t, b) {
		runtime.GC()
		if p.Value() != nil {
			t.Errorf("%d of what was handed in and answered is kept", i)
		}
	}
	tells(t, b, 124, 1)
	runtime.KeepAlive(b)
}

func TestR7_ANilBuffer(t *testing.T) {
	var b *out.Buffer
	bad := frameF()
	bad.Head.Length = 4
	for _, f := range []api.Frame{{}, frameF(), frameP(), bad} {
		put(t, b, f, api.ErrNil)
	}
	for _, n := range []int{math.MinInt, -1, 0, 1, math.MaxInt} {
		takes(t, b, n, "")
	}
	tells(t, b, 0, 0)
	if n := b.Clear(); n != 0 {
		t.Errorf("Clear: %d", n)
	}
}
