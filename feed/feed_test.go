package feed_test

import (
	"bytes"
	"math"
	"runtime"
	"slices"
	"testing"
	"weak"

	"culvert/api"
	"culvert/draws"
	"culvert/feed"
	"culvert/frame"
	"culvert/sentinels"
	"culvert/specimens"
)

// newDecoder: a decoder that must come about.
func newDecoder(t *testing.T, most int) *feed.Decoder {
	t.Helper()
	d, err := feed.New(most)
	if d == nil || err != nil {
		t.Fatalf("New(%d): %v, %v", most, d, err)
	}
	return d
}

// stands: how a decoder must stand that isn't dead.
func stands(t *testing.T, d *feed.Decoder, held, wants int) {
	t.Helper()
	if d.Held() != held || d.Wants() != wants || d.Err() != nil {
		t.Fatalf("held %d, wants %d, %v; want %d and %d, nil", d.Held(), d.Wants(), d.Err(), held, wants)
	}
}

// isDead: how a decoder must stand that died of a header of this stream.
func isDead(t *testing.T, d *feed.Decoder, stream uint32, why error) {
	t.Helper()
	if d.Held() != 0 || d.Wants() != 0 || !sentinels.Breach(d.Err(), stream, why) {
		t.Fatalf("held %d, wants %d, %v; want 0 and 0, and a violation on %d: %v", d.Held(), d.Wants(), d.Err(), stream, why)
	}
}

// reading is what bytes must have been read as.
type reading struct {
	frames      []api.Frame
	held, wants int
	stream      uint32
	why         error // nil of a decoder that isn't dead
}

// plainRead reads all bytes at once, without anything that is kept.
func plainRead(b []byte, most int) reading {
	var r reading
	for len(b) >= 12 {
		h, _ := frame.Decode(b)
		if why := frame.Check(h, most); why != nil {
			return reading{frames: r.frames, stream: h.Stream, why: why}
		}
		end := 12 + frame.Size(h)
		if len(b) < end {
			r.held, r.wants = len(b), end-len(b)
			return r
		}
		r.frames = append(r.frames, api.Frame{Head: h, Data: b[12:end]})
		b = b[end:]
	}
	r.held, r.wants = len(b), 12-len(b)
	return r
}

// feedAll feeds the pieces, and holds all that the decoder says behind each against what the bytes up to there are.
func feedAll(t *testing.T, most int, pieces [][]byte) {
	t.Helper()
	d := newDecoder(t, most)
	var fed []byte
	var got []api.Frame
	for i, piece := range pieces {
		fed = append(fed, piece...)
		frames, err := d.Feed(piece)
		got = append(got, frames...)
		want := plainRead(fed, most)
		if !specimens.Same(got, want.frames) {
			t.Fatalf("%x, behind piece %d: %v, want %v", pieces, i, got, want.frames)
		}
		if want.why != nil {
			if !sentinels.Breach(err, want.stream, want.why) {
				t.Fatalf("%x, behind piece %d: %v, want a violation on %d: %v", pieces, i, err, want.stream, want.why)
			}
			isDead(t, d, want.stream, want.why)
			continue
		}
		if err != nil {
			t.Fatalf("%x, piece %d: %v", pieces, i, err)
		}
		stands(t, d, want.held, want.wants)
	}
}

// singles: a piece for each byte.
func singles(b []byte) [][]byte {
	var pieces [][]byte
	for i := range b {
		pieces = append(pieces, b[i:i+1])
	}
	return pieces
}

// drawnPieces: b in pieces of 0 to most bytes.
func drawnPieces(d *draws.Draws, b []byte, most int) [][]byte {
	var pieces [][]byte
	for len(b) > 0 {
		n := min(d.Below(most+1), len(b))
		pieces = append(pieces, b[:n])
		b = b[n:]
	}
	return append(pieces, nil)
}

// drawnBytes: a few frames' bytes, of which perhaps some were written over or have gone at the end.
func drawnBytes(d *draws.Draws, most int) []byte {
	var frames []api.Frame
	for range 1 + d.Below(5) {
		frames = append(frames, specimens.Drawn(d, most))
	}
	b := specimens.Bytes(frames...)
	if d.Below(2) == 0 {
		b[d.Below(len(b))] = byte(d.Below(256))
	}
	if d.Below(3) == 0 {
		b = b[:d.Below(len(b)+1)]
	}
	return b
}

func TestP5_1_New(t *testing.T) {
	for _, most := range []int{1, 2, 3, 1000, api.MaxFrame - 1, api.MaxFrame} {
		stands(t, newDecoder(t, most), 0, 12)
	}
	for _, most := range []int{0, -1, api.MaxFrame + 1, math.MaxInt32, 1 << 32, 1<<32 + 1, -1 << 32, math.MinInt, math.MaxInt} {
		if d, err := feed.New(most); d != nil || !sentinels.Just(err, api.ErrRange) {
			t.Errorf("New(%d): %v, %v, want ErrRange", most, d, err)
		}
	}
}

func TestP5_1_TheChaptersExamples(t *testing.T) {
	d := newDecoder(t, 3)
	for i, c := range []struct {
		in          string
		out         []api.Frame
		held, wants int
	}{
		{"\x00\x01\x00\x01\x00\x00", nil, 6, 6},
		{"\x00\x07\x00\x00\x00\x00\x00", []api.Frame{specimens.Bare(api.TypeWindow, api.FlagSYN, 7, 0)}, 1, 11},
		{"\x00\x00\x00\x00\x00\x00\x07\x00\x00\x00\x02a", nil, 13, 1},
		{"b\x00\x00", []api.Frame{specimens.Data(0, 7, "ab")}, 2, 10},
		{"", nil, 2, 10},
		{"\x00\x04\x00\x00\x00\x07\x00\x00\x00\x00", []api.Frame{specimens.Data(api.FlagFIN, 7, "")}, 0, 12},
	} {
		got, err := d.Feed([]byte(c.in))
		if !specimens.Same(got, c.out) || err != nil {
			t.Fatalf("example %d: %v, %v, want %v", i, got, err, c.out)
		}
		stands(t, d, c.held, c.wants)
	}
	got, err := d.Feed([]byte("\x00\x02\x00\x01\x00\x00\x00\x00\x00\x00\x00\x09\x00\x00\x00\x00\x00\x00\x00\x07\x00\x00\x00\x04a"))
	if !specimens.Same(got, []api.Frame{specimens.Bare(api.TypePing, api.FlagSYN, 0, 9)}) || !sentinels.Breach(err, 7, api.ErrLength) {
		t.Fatalf("the example with the violation: %v, %v", got, err)
	}
	isDead(t, d, 7, api.ErrLength)
	if got, err := d.Feed([]byte{0}); len(got) != 0 || !sentinels.Breach(err, 7, api.ErrLength) {
		t.Errorf("fed when it is dead: %v, %v", got, err)
	}
	isDead(t, d, 7, api.ErrLength)
}

func TestP5_1_HeldAndWantsAtEachByteOfAFrame(t *testing.T) {
	for _, f := range []api.Frame{specimens.Data(0, 1, "abcde"), specimens.Data(api.FlagFIN, 1, "a"), specimens.Data(0, 1, ""), specimens.Bare(api.TypeWindow, 0, 1, 5), specimens.Bare(api.TypePing, api.FlagACK, 0, math.MaxUint32)} {
		d := newDecoder(t, 5)
		b := specimens.Bytes(f)
		for i := range b {
			wants := 12 - i
			if i >= 12 {
				wants = len(b) - i
			}
			stands(t, d, i, wants)
			got, err := d.Feed(b[i : i+1])
			if last := i == len(b)-1; err != nil || !last && len(got) != 0 || last && !specimens.Same(got, []api.Frame{f}) {
				t.Fatalf("%x, byte %d: %v, %v", b, i, got, err)
			}
		}
		stands(t, d, 0, 12)
	}
}

// Headers around which Check's answer changes: the decoder's must be just that, at the twelfth byte and not ahead of it.
func TestP5_1_AHeaderIsJudgedAtItsTwelfthByte(t *testing.T) {
	const most = 3
	for version := range uint8(2) {
		for kind := range uint8(6) {
			for flags := range uint16(33) {
				for _, stream := range []uint32{0, 1, 256, math.MaxUint32} {
					for _, length := range []uint32{0, 1, 2, 3, 4, 1 << 31, math.MaxUint32} {
						h := api.Header{Version: version, Type: kind, Flags: flags, Stream: stream, Length: length}
						b := frame.Encode(h)
						feedAll(t, most, [][]byte{b[:11], b[11:]})
						feedAll(t, most, [][]byte{b, []byte("abcd")})
					}
				}
			}
		}
	}
}

func TestP5_1_EachWayToDie(t *testing.T) {
	for _, c := range []struct {
		h   api.Header
		why error
	}{
		{api.Header{Version: 1, Stream: 7}, api.ErrVersion},
		{api.Header{Version: 255, Type: 9, Flags: 77, Stream: 256, Length: 9}, api.ErrVersion},
		{api.Header{Type: 4}, api.ErrType},
		{api.Header{Type: 255, Stream: math.MaxUint32}, api.ErrType},
		{api.Header{Flags: 3, Stream: 5}, api.ErrFlags},
		{api.Header{Type: api.TypeWindow, Flags: 16, Stream: 5}, api.ErrFlags},
		{api.Header{Type: api.TypePing, Flags: 0}, api.ErrFlags},
		{api.Header{Type: api.TypePing, Flags: 1, Stream: 5}, api.ErrID},
		{api.Header{Length: 2}, api.ErrID},
		{api.Header{Stream: 6, Length: 4}, api.ErrLength},
		{api.Header{Stream: 6, Length: math.MaxUint32}, api.ErrLength},
		{api.Header{Flags: api.FlagRST, Stream: 6, Length: 1}, api.ErrLength},
		{api.Header{Type: api.TypeAway, Length: 3}, api.ErrLength},
	} {
		d := newDecoder(t, 3)
		ahead := []api.Frame{specimens.Data(0, 1, "abc"), specimens.Bare(api.TypeAway, 0, 0, 2)}
		behind := specimens.Bytes(specimens.Data(0, 9, "xyz"))
		got, err := d.Feed(append(append(specimens.Bytes(ahead...), frame.Encode(c.h)...), behind...))
		if !specimens.Same(got, ahead) || !sentinels.Breach(err, c.h.Stream, c.why) {
			t.Errorf("%+v: %v, %v, want a violation: %v", c.h, got, err, c.why)
		}
		isDead(t, d, c.h.Stream, c.why)
	}
}

func TestP5_1_MostIsTheMostPayload(t *testing.T) {
	for _, most := range []int{1, 2, 11, 12, 13, 255, 256, api.MaxFrame - 1, api.MaxFrame} {
		payload := bytes.Repeat([]byte("culvert"), most/7+1)[:most]
		full := specimens.Data(0, 3, string(payload))
		d := newDecoder(t, most)
		if got, err := d.Feed(specimens.Bytes(full)); !specimens.Same(got, []api.Frame{full}) || err != nil {
			t.Errorf("most %d, and as many bytes: %d frames, %v", most, len(got), err)
		}
		stands(t, d, 0, 12)
		more := frame.Encode(api.Header{Stream: 3, Length: uint32(most) + 1})
		if got, err := d.Feed(more); len(got) != 0 || !sentinels.Breach(err, 3, api.ErrLength) {
			t.Errorf("most %d, and one byte more: %v, %v", most, got, err)
		}
		isDead(t, d, 3, api.ErrLength)
	}
}

func TestP5_1_AFrameWithoutPayloadHasNoData(t *testing.T) {
	d := newDecoder(t, 3)
	in := []api.Frame{specimens.Data(0, 1, "ab"), specimens.Data(0, 1, ""), specimens.Data(api.FlagRST, 1, ""), specimens.Bare(api.TypeWindow, 0, 1, 3), specimens.Bare(api.TypePing, api.FlagSYN, 0, 3), specimens.Bare(api.TypeAway, 0, 0, 2), specimens.Data(0, 1, "c")}
	got, err := d.Feed(specimens.Bytes(in...))
	if !specimens.Same(got, in) || err != nil {
		t.Fatalf("%v, %v", got, err)
	}
	for i, f := range got[1:6] {
		if len(f.Data) != 0 {
			t.Errorf("frame %d has %q", i+1, f.Data)
		}
	}
}

// A dead decoder stays as it is, whatever comes.
func TestP5_1_ADeadDecoderIsDeadForGood(t *testing.T) {
	d := newDecoder(t, 3)
	bad := frame.Encode(api.Header{Version: 7, Stream: 258})
	if _, err := d.Feed(bad); !sentinels.Breach(err, 258, api.ErrVersion) {
		t.Fatalf("a header that may not be: %v", err)
	}
	for _, b := range [][]byte{nil, {}, {0}, make([]byte, 11), make([]byte, 12), bad, frame.Encode(api.Header{Type: 9}), specimens.Bytes(specimens.Data(0, 1, "abc")), make([]byte, 100000)} {
		if got, err := d.Feed(b); len(got) != 0 || !sentinels.Breach(err, 258, api.ErrVersion) {
			t.Errorf("fed %d bytes: %v, %v", len(b), got, err)
		}
		isDead(t, d, 258, api.ErrVersion)
	}
}

func TestP5_1_NothingChangesNothing(t *testing.T) {
	b := specimens.Bytes(specimens.Data(0, 1, "abc"), specimens.Bare(api.TypePing, api.FlagSYN, 0, 1))
	var pieces [][]byte
	for i := range b {
		pieces = append(pieces, nil, b[i:i+1], []byte{})
	}
	feedAll(t, 3, pieces)
}

func TestP5_2_EachCuttingGivesTheSame(t *testing.T) {
	d := draws.Draws(5)
	for i := range 1500 {
		most := 1 + d.Below(20)
		b := drawnBytes(&d, most)
		feedAll(t, most, [][]byte{b})
		feedAll(t, most, singles(b))
		for range 3 {
			feedAll(t, most, drawnPieces(&d, b, 1+d.Below(30)))
		}
		if i%20 == 0 {
			for at := range b {
				feedAll(t, most, [][]byte{b[:at], b[at:]})
			}
		}
	}
}

func TestP5_2_BytesThatAreNoFrames(t *testing.T) {
	d := draws.Draws(52)
	for range 3000 {
		b := make([]byte, d.Below(60))
		for i := range b {
			b[i] = byte(d.Below(1 + d.Below(256))) // small numbers more often: they are more often lawful
		}
		most := 1 + d.Below(20)
		feedAll(t, most, [][]byte{b})
		feedAll(t, most, drawnPieces(&d, b, 8))
	}
}

func TestP5_3_WhatFramesBytesSayComesBack(t *testing.T) {
	d := draws.Draws(53)
	for range 500 {
		most := []int{1, 2, 3, 12, 100, 3000}[d.Below(6)]
		var in, out []api.Frame
		for range d.Below(20) {
			in = append(in, specimens.Drawn(&d, most))
		}
		decoder := newDecoder(t, most)
		for _, piece := range drawnPieces(&d, specimens.Bytes(in...), 1+d.Below(2*most+20)) {
			got, err := decoder.Feed(piece)
			if err != nil {
				t.Fatalf("most %d: %v", most, err)
			}
			out = append(out, got...)
		}
		if !specimens.Same(in, out) {
			t.Fatalf("most %d: in %v, out %v", most, in, out)
		}
		stands(t, decoder, 0, 12)
	}
}

func TestP5_3_WhatWasAnsweredAndWhatIsHeldIsAllThatWasFed(t *testing.T) {
	d := draws.Draws(54)
	for range 500 {
		most := 1 + d.Below(50)
		decoder := newDecoder(t, most)
		var fed, answered []byte
		for _, piece := range drawnPieces(&d, drawnBytes(&d, most), 1+d.Below(40)) {
			got, err := decoder.Feed(piece)
			if err != nil {
				break
			}
			fed = append(fed, piece...)
			answered = append(answered, specimens.Bytes(got...)...)
			if !bytes.HasPrefix(fed, answered) || len(fed)-len(answered) != decoder.Held() {
				t.Fatalf("fed %x, answered %x, held %d", fed, answered, decoder.Held())
			}
		}
		held := fed[len(answered):]
		if decoder.Err() != nil || len(held) < 12 {
			continue
		}
		// What is held are these bytes and no others: with the rest behind them they are the frame.
		rest := make([]byte, decoder.Wants())
		got, err := decoder.Feed(rest)
		if err != nil || !bytes.Equal(specimens.Bytes(got...), append(held, rest...)) {
			t.Fatalf("held %x, and fed %d noughts: %v, %v", held, len(rest), got, err)
		}
	}
}

func TestP5_4_HeldIsAtMostElevenAndMost(t *testing.T) {
	for _, most := range []int{1, 2, 100, api.MaxFrame} {
		d := newDecoder(t, most)
		payload := bytes.Repeat([]byte{9}, most)
		b := specimens.Bytes(specimens.Data(0, 1, string(payload)))
		greatest := 0
		for _, piece := range singles(slices.Concat(b, b)) {
			if _, err := d.Feed(piece); err != nil {
				t.Fatal(err)
			}
			greatest = max(greatest, d.Held())
		}
		if greatest != 11+most {
			t.Errorf("most %d: held up to %d, want %d", most, greatest, 11+most)
		}
		stands(t, d, 0, 12)
	}
}

func TestP5_4_FedWhatItWantsItAnswersAtMostOneFrame(t *testing.T) {
	d := draws.Draws(55)
	for range 500 {
		most := 1 + d.Below(30)
		decoder := newDecoder(t, most)
		b := drawnBytes(&d, most)
		want := plainRead(b, most)
		var got []api.Frame
		for len(b) > 0 && decoder.Err() == nil {
			if w := decoder.Wants(); w < 1 || decoder.Held() > 11+most {
				t.Fatalf("wants %d, holds %d", w, decoder.Held())
			}
			n := min(decoder.Wants(), len(b))
			frames, _ := decoder.Feed(b[:n])
			if len(frames) > 1 {
				t.Fatalf("%d frames at once", len(frames))
			}
			got, b = append(got, frames...), b[n:]
		}
		if !specimens.Same(got, want.frames) {
			t.Fatalf("%v, want %v", got, want.frames)
		}
	}
}

func TestP5_5_WhatIsHandedInStaysAndIsNotKept(t *testing.T) {
	in := []api.Frame{specimens.Data(0, 1, "abcdef"), specimens.Bare(api.TypeWindow, 0, 1, 9), specimens.Data(0, 2, "ghi")}
	all := specimens.Bytes(in...)
	for size := 1; size <= len(all); size++ {
		d := newDecoder(t, 6)
		var got []api.Frame
		for piece := range slices.Chunk(all, size) {
			b := make([]byte, len(piece), len(piece)+40) // with spare room, which isn't the decoder's to write
			copy(b, piece)
			before := slices.Clone(b[:cap(b)])
			frames, err := d.Feed(b)
			if err != nil || !bytes.Equal(b[:cap(b)], before) {
				t.Fatalf("pieces of %d: %x was made %x, %v", size, before, b[:cap(b)], err)
			}
			got = append(got, frames...)
			specimens.Spoil(b)
		}
		if !specimens.Same(got, in) {
			t.Errorf("pieces of %d, written over when they were fed: %v", size, got)
		}
	}
}

func TestP5_5_EachFramesDataIsItsOwn(t *testing.T) {
	in := []api.Frame{specimens.Data(0, 1, "abcdef"), specimens.Data(0, 1, "ghi"), specimens.Data(0, 2, "jklmno")}
	all := specimens.Bytes(in...)
	for at := range all { // cut everywhere, so that what is held is the beginning of each of them
		d := newDecoder(t, 6)
		b := slices.Clone(all)
		first, _ := d.Feed(b[:at])
		firstSame := specimens.Same(first, in[:len(first)])
		for i := range first {
			specimens.Spoil(first[i].Data)
		}
		clear(first[:cap(first)])
		second, _ := d.Feed(b[at:])
		if !firstSame || !specimens.Same(second, in[len(first):]) {
			t.Fatalf("cut at %d: %v, behind %d frames that were written over", at, second, len(first))
		}
		for i := range second {
			specimens.Spoil(second[i].Data)
			if !specimens.Same(second[i+1:], in[len(first)+i+1:]) {
				t.Errorf("cut at %d: with frame %d the others were written over: %v", at, i, second)
			}
		}
		if !bytes.Equal(b, all) {
			t.Errorf("cut at %d: the bytes that were handed in were written over", at)
		}
	}
}

// feedNew feeds new memory of many bytes; what remains of it is a weak pointer, and those to the frames' Data.
func feedNew(d *feed.Decoder, b []byte) []weak.Pointer[byte] {
	piece := slices.Clone(b)
	left := []weak.Pointer[byte]{weak.Make(&piece[0])}
	frames, _ := d.Feed(piece)
	for _, f := range frames {
		if len(f.Data) > 0 {
			left = append(left, weak.Make(&f.Data[0]))
		}
	}
	return left
}

func TestP5_5_NeitherPiecesNorFramesAreKeptAlive(t *testing.T) {
	full := specimens.Bytes(specimens.Data(0, 1, string(make([]byte, 200))))
	for _, tail := range [][]byte{nil, full[:5], full[:12], full[:150], frame.Encode(api.Header{Type: 9})} {
		d := newDecoder(t, 200)
		left := feedNew(d, slices.Concat(full, full, tail))
		runtime.GC()
		for i, p := range left {
			if p.Value() != nil {
				t.Errorf("%d bytes behind two frames: %d of what was fed and answered is kept", len(tail), i)
			}
		}
		if len(left) != 3 {
			t.Errorf("%d frames with payload, want 2", len(left)-1)
		}
		runtime.KeepAlive(d)
	}
}

func TestR7_ANilDecoder(t *testing.T) {
	var d *feed.Decoder
	for _, b := range [][]byte{nil, {0}, make([]byte, 12), specimens.Bytes(specimens.Data(0, 1, "a"))} {
		if got, err := d.Feed(b); len(got) != 0 || !sentinels.Just(err, api.ErrNil) {
			t.Errorf("Feed(%x): %v, %v, want ErrNil", b, got, err)
		}
	}
	if d.Held() != 0 || d.Wants() != 0 || d.Err() != nil {
		t.Errorf("held %d, wants %d, %v", d.Held(), d.Wants(), d.Err())
	}
}

func TestR9_DecodersDoNotHangOnEachOther(t *testing.T) {
	one, other := newDecoder(t, 3), newDecoder(t, 5)
	a, b := specimens.Data(0, 1, "abc"), specimens.Data(0, 2, "vwxyz")
	first, second := specimens.Bytes(a), specimens.Bytes(b)
	for i := range second[:14] {
		one.Feed(first[i : i+1])
		other.Feed(second[i : i+1])
	}
	stands(t, one, 14, 1)
	stands(t, other, 14, 3)
	dead := newDecoder(t, 3)
	dead.Feed(second)
	isDead(t, dead, 2, api.ErrLength)
	if got, err := one.Feed(first[14:]); !specimens.Same(got, []api.Frame{a}) || err != nil {
		t.Errorf("the one: %v, %v", got, err)
	}
	if got, err := other.Feed(second[14:]); !specimens.Same(got, []api.Frame{b}) || err != nil {
		t.Errorf("the other: %v, %v", got, err)
	}
}
