package tap_test

import (
	"bytes"
	"math"
	"slices"
	"strings"
	"testing"

	"culvert/api"
	"culvert/draws"
	"culvert/frame"
	"culvert/sentinels"
	"culvert/specimens"
	"culvert/tap"
)

// newTap: a tap that must come about.
func newTap(t *testing.T, most int) *tap.Tap {
	t.Helper()
	x, err := tap.New(most)
	if x == nil || err != nil {
		t.Fatalf("New(%d): %v, %v", most, x, err)
	}
	return x
}

// hears: a tap must tell this of these bytes.
func hears(t *testing.T, x *tap.Tap, b, want string) {
	t.Helper()
	if got := x.Feed([]byte(b)); got != want {
		t.Fatalf("Feed(%x): %q, want %q", b, got, want)
	}
}

// stands: how a tap must stand that has heard this.
func stands(t *testing.T, x *tap.Tap, want heard) {
	t.Helper()
	for kind := range 256 {
		frames, payload := x.Seen(uint8(kind))
		if frames != want.frames[uint8(kind)] || payload != want.payload[uint8(kind)] {
			t.Fatalf("Seen(%d): %d, %d, want %d, %d", kind, frames, payload, want.frames[uint8(kind)], want.payload[uint8(kind)])
		}
	}
	err := x.Err()
	if want.why == nil && err != nil || want.why != nil && !sentinels.Breach(err, want.stream, want.why) {
		t.Fatalf("Err: %v, want %v on %d", err, want.why, want.stream)
	}
}

func TestP26_4_New(t *testing.T) {
	for _, most := range []int{1, 2, 3, 1000, api.MaxFrame - 1, api.MaxFrame} {
		stands(t, newTap(t, most), heard{})
	}
	for _, most := range []int{0, -1, api.MaxFrame + 1, math.MaxInt32, 1 << 32, 1<<32 + 1, -1 << 32, math.MinInt, math.MaxInt} {
		if x, err := tap.New(most); x != nil || !sentinels.Just(err, api.ErrRange) {
			t.Errorf("New(%d): %v, %v, want ErrRange", most, x, err)
		}
	}
}

func TestP26_5_TheChaptersExample(t *testing.T) {
	x := newTap(t, 3)
	hears(t, x, "\x00\x02\x00\x01\x00\x00\x00\x00\x00\x00\x00\x07\x00\x00", "ping syn stream 0 length 7\n")
	hears(t, x, "", "")
	hears(t, x, "\x00\x00\x00\x00\x00\x05\x00\x00\x00\x01a", "data stream 5 length 1 a\n")
	stands(t, x, heard{frames: map[uint8]int{data: 1, ping: 1}, payload: map[uint8]int{data: 1}})
	hears(t, x, "\x00\x00\x00\x00\x00\x00\x00\x05\x00\x00\x00\x04a", "#broken length stream 5\n")
	for _, b := range []string{"", "a", "\x00\x02\x00\x01\x00\x00\x00\x00\x00\x00\x00\x07", strings.Repeat("\xff", 40)} {
		hears(t, x, b, "")
		stands(t, x, heard{frames: map[uint8]int{data: 1, ping: 1}, payload: map[uint8]int{data: 1}, stream: 5, why: api.ErrLength})
	}
}

// Each reason for which a header may not be has its word, and the broken line its stream; the lines ahead of it are told too.
func TestP26_5_TheBrokenLine(t *testing.T) {
	for _, c := range []struct {
		h    api.Header
		line string
		why  error
	}{
		{api.Header{Version: 1, Type: 9, Flags: 77, Stream: 256, Length: 9}, "#broken version stream 256\n", api.ErrVersion},
		{api.Header{Type: 4, Flags: 77, Stream: 0, Length: 9}, "#broken type stream 0\n", api.ErrType},
		{api.Header{Type: data, Flags: syn | ack, Stream: 10, Length: 9}, "#broken flags stream 10\n", api.ErrFlags},
		{api.Header{Type: ping, Flags: syn, Stream: top, Length: 9}, "#broken id stream 4294967295\n", api.ErrID},
		{api.Header{Type: data, Stream: 0, Length: 9}, "#broken id stream 0\n", api.ErrID},
		{api.Header{Type: data, Stream: 1 << 31, Length: 4}, "#broken length stream 2147483648\n", api.ErrLength},
		{api.Header{Type: away, Length: 3}, "#broken length stream 0\n", api.ErrLength},
		{api.Header{Type: window, Flags: rst, Stream: 7, Length: 1}, "#broken length stream 7\n", api.ErrLength},
	} {
		bad := frame.Encode(c.h)
		ahead := specimens.Bytes(specimens.Data(fin, 1, "abc"), specimens.Bare(away, 0, 0, 2))
		for _, behind := range []string{"", "x", strings.Repeat("\x00", 50)} {
			x := newTap(t, 3)
			hears(t, x, string(ahead)+string(bad)+behind, "data fin stream 1 length 3 abc\naway stream 0 length 2\n"+c.line)
			hears(t, x, string(ahead), "")
			stands(t, x, heard{frames: map[uint8]int{data: 1, away: 1}, payload: map[uint8]int{data: 3}, stream: c.h.Stream, why: c.why})
		}
		x := newTap(t, 3)
		hears(t, x, string(bad[:11]), "") // judged at the twelfth byte, and no sooner
		stands(t, x, heard{})
		hears(t, x, string(bad[11:]), c.line)
		stands(t, x, heard{stream: c.h.Stream, why: c.why})
	}
}

func TestP26_5_MostIsWhatAPayloadMayHave(t *testing.T) {
	for _, most := range []int{1, 2, 3, 255, 256, api.MaxFrame - 1, api.MaxFrame} {
		x := newTap(t, most)
		line, _ := tap.Line(specimens.Data(0, 9, strings.Repeat("a", most)))
		hears(t, x, string(specimens.Bytes(specimens.Data(0, 9, strings.Repeat("a", most)))), line+"\n")
		hears(t, x, string(frame.Encode(api.Header{Stream: 9, Length: uint32(most) + 1})), "#broken length stream 9\n")
		stands(t, x, heard{frames: map[uint8]int{data: 1}, payload: map[uint8]int{data: most}, stream: 9, why: api.ErrLength})
	}
}

// What isn't whole yet is neither told nor counted.
func TestP26_6_SeenCountsWholeFramesAlone(t *testing.T) {
	x := newTap(t, 9)
	b := string(specimens.Bytes(specimens.Data(0, 1, "abc")))
	for range 3 {
		x.Feed([]byte(b))
	}
	want := heard{frames: map[uint8]int{data: 3}, payload: map[uint8]int{data: 9}}
	stands(t, x, want)
	hears(t, x, b[:14], "")
	stands(t, x, want)
	hears(t, x, b[14:], "data stream 1 length 3 abc\n")
	hears(t, x, string(specimens.Bytes(specimens.Bare(window, 0, 1, 77))), "window stream 1 length 77\n") // the delta is no payload
	stands(t, x, heard{frames: map[uint8]int{data: 4, window: 1}, payload: map[uint8]int{data: 12}})
}

func TestR7_ANilTapHearsNothing(t *testing.T) {
	var x *tap.Tap
	for _, b := range []string{"", "x", string(specimens.Bytes(specimens.Bare(ping, syn, 0, 1))), strings.Repeat("\xff", 12)} {
		hears(t, x, b, "")
		stands(t, x, heard{})
	}
}

// drawnBytes: a few frames' bytes, of which perhaps some were written over or have gone at the end.
func drawnBytes(d *draws.Draws, most int) []byte {
	var frames []api.Frame
	for range 1 + d.Below(6) {
		frames = append(frames, specimens.Drawn(d, most))
	}
	b := specimens.Bytes(frames...)
	if d.Below(2) == 0 {
		b[d.Below(len(b))] = byte(d.Below(256))
	}
	if d.Below(3) == 0 {
		b = b[:d.Below(len(b)+1)]
	}
	return b
}

// inPieces: b in pieces of 0 to most bytes.
func inPieces(d *draws.Draws, b []byte, most int) [][]byte {
	pieces := [][]byte{nil}
	for len(b) > 0 {
		n := min(d.Below(most+1), len(b))
		pieces = append(pieces, b[:n])
		b = b[n:]
	}
	return append(pieces, nil)
}

// feedAll feeds the pieces, and holds all that was told behind each against what the bytes up to there are.
func feedAll(t *testing.T, most int, pieces [][]byte) heard {
	t.Helper()
	x := newTap(t, most)
	var fed []byte
	told := ""
	var want heard
	for i, piece := range pieces {
		fed = append(fed, piece...)
		told += x.Feed(piece)
		want = plainHear(fed, most)
		if told != want.text {
			t.Fatalf("%x, behind piece %d: %q, want %q", pieces, i, told, want.text)
		}
		stands(t, x, want)
	}
	return want
}

func TestP26_9_PiecesDontMatter(t *testing.T) {
	d := draws.Draws(9)
	whys := map[error]int{}
	for range 1500 {
		most := 1 + d.Below(20)
		b := drawnBytes(&d, most)
		for _, n := range []int{1, 3, 13, 40, 1000} {
			whys[feedAll(t, most, inPieces(&d, b, n)).why]++
		}
	}
	for _, why := range []error{nil, api.ErrVersion, api.ErrType, api.ErrFlags, api.ErrID, api.ErrLength} {
		if whys[why] < 20 {
			t.Errorf("only %d runs with %v", whys[why], why)
		}
	}
}

func TestP26_9_WhatATapTellsIsTheBytesAgain(t *testing.T) {
	d := draws.Draws(99)
	for range 3000 {
		most := 1 + d.Below(20)
		b := drawnBytes(&d, most)
		x := newTap(t, most)
		told := ""
		for _, piece := range inPieces(&d, b, 30) {
			told += x.Feed(piece)
		}
		again, err := tap.Assemble(told)
		if whole := plainHear(b, most).whole; !bytes.Equal(again, b[:whole]) || err != nil {
			t.Fatalf("Assemble(%q): %x, %v, want %x", told, again, err, b[:whole])
		}
	}
}

func TestP26_9_LinesOfFramesThatMayBeAreToldAgain(t *testing.T) {
	d := draws.Draws(999)
	for range 3000 {
		most := 1 + d.Below(20)
		text := ""
		for range d.Below(8) {
			line, err := tap.Line(specimens.Drawn(&d, most))
			if err != nil {
				t.Fatal(err)
			}
			text += line + "\n"
		}
		b, err := tap.Assemble(text)
		if err != nil {
			t.Fatalf("Assemble(%q): %v", text, err)
		}
		x := newTap(t, most)
		told := ""
		for _, piece := range inPieces(&d, b, 50) {
			told += x.Feed(piece)
		}
		if told != text || x.Err() != nil {
			t.Fatalf("%q, %v, want %q", told, x.Err(), text)
		}
	}
}

func TestP26_10_WhatIsFedIsNeitherChangedNorKept(t *testing.T) {
	b := specimens.Bytes(specimens.Data(0, 1, "abcdef"), specimens.Bare(ping, syn, 0, 7))
	room := append(slices.Clone(b), "spare room"...)
	for cut := range b {
		one, two := slices.Clone(room), slices.Clone(room[cut:])
		x := newTap(t, 9)
		told := x.Feed(one[:cut])
		if !slices.Equal(one, room) {
			t.Fatalf("Feed changed its bytes: %x", one)
		}
		specimens.Spoil(one)
		told += x.Feed(two[:len(b)-cut])
		if !slices.Equal(two, room[cut:]) {
			t.Fatalf("Feed changed its bytes: %x", two)
		}
		specimens.Spoil(two)
		if told != "data stream 1 length 6 abcdef\nping syn stream 0 length 7\n" {
			t.Fatalf("cut at %d: %q", cut, told)
		}
	}
}

// Two taps that are fed turn by turn don't hear each other's bytes.
func TestR9_TapsDontTouchEachOther(t *testing.T) {
	d := draws.Draws(5)
	for range 300 {
		one, two := drawnBytes(&d, 5), drawnBytes(&d, 9)
		x, y := newTap(t, 5), newTap(t, 9)
		toldX, toldY := "", ""
		for i := range max(len(one), len(two)) {
			if i < len(one) {
				toldX += x.Feed(one[i : i+1])
			}
			if i < len(two) {
				toldY += y.Feed(two[i : i+1])
			}
		}
		if toldX != plainHear(one, 5).text || toldY != plainHear(two, 9).text {
			t.Fatalf("%x: %q; %x: %q", one, toldX, two, toldY)
		}
		stands(t, x, plainHear(one, 5))
		stands(t, y, plainHear(two, 9))
	}
}

// What one direction of a connection may carry, of every type.
func TestP26_9_AConversation(t *testing.T) {
	text := strings.Join([]string{
		"window syn stream 1 length 0", "data stream 1 length 3 abc", "data fin stream 1 length 1 d", "ping syn stream 0 length 1",
		"window stream 2 length 3", "window rst stream 3 length 0", "ping ack stream 0 length 1", "away stream 0 length 0", "",
	}, "\n")
	b, err := tap.Assemble(text)
	if err != nil {
		t.Fatal(err)
	}
	x := newTap(t, 3)
	hears(t, x, string(b), text)
	stands(t, x, heard{frames: map[uint8]int{data: 2, window: 3, ping: 2, away: 1}, payload: map[uint8]int{data: 4}})
}
