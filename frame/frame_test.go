package frame_test

import (
	"bytes"
	"fmt"
	"math"
	"slices"
	"strconv"
	"strings"
	"testing"

	"culvert/api"
	"culvert/draws"
	"culvert/frame"
	"culvert/sentinels"
	"culvert/specimens"
)

const (
	syn = api.FlagSYN
	ack = api.FlagACK
	fin = api.FlagFIN
	rst = api.FlagRST
)

const (
	data   = api.TypeData
	window = api.TypeWindow
	ping   = api.TypePing
	away   = api.TypeAway
)

const top = math.MaxUint32

// edges are the numbers of 32 bits around which bytes, digits and bounds change.
var edges = []uint32{0, 1, 2, 3, 9, 10, 255, 256, 65535, 65536, 65537, 1<<24 - 1, 1 << 24, 16909060, 1<<31 - 1, 1 << 31, top - 1, top}

func head(kind uint8, flags uint16, stream, length uint32) api.Header {
	return api.Header{Type: kind, Flags: flags, Stream: stream, Length: length}
}

// spread: a header with all of its fields drawn, and small ones about as often as great ones.
func spread(d *draws.Draws) api.Header {
	pick := func(bits int) uint32 {
		return uint32(d.Below(1<<16)<<16|d.Below(1<<16)) >> (32 - bits + d.Below(bits+1))
	}
	return api.Header{Version: uint8(pick(8)), Type: uint8(pick(8)), Flags: uint16(pick(16)), Stream: pick(32), Length: pick(32)}
}

// samples: each edge in each field, and headers spread over all that there are.
func samples() []api.Header {
	var all []api.Header
	for _, v := range edges {
		all = append(all,
			api.Header{Version: uint8(v)}, api.Header{Type: uint8(v)}, api.Header{Flags: uint16(v)}, api.Header{Stream: v}, api.Header{Length: v},
			api.Header{Version: uint8(v), Type: uint8(v), Flags: uint16(v), Stream: v, Length: v})
	}
	d := draws.Draws(4)
	for range 20000 {
		all = append(all, spread(&d))
	}
	return all
}

var writings = []struct {
	h api.Header
	b string
}{
	{api.Header{}, "\x00\x00\x00\x00\x00\x00\x00\x00\x00\x00\x00\x00"},
	{head(window, syn, 1, 262144), "\x00\x01\x00\x01\x00\x00\x00\x01\x00\x04\x00\x00"},
	{head(data, fin, 3, 2), "\x00\x00\x00\x04\x00\x00\x00\x03\x00\x00\x00\x02"},
	{head(away, 0, 0, 1), "\x00\x03\x00\x00\x00\x00\x00\x00\x00\x00\x00\x01"},
	{api.Header{Version: 1, Type: 2, Flags: 0x0304, Stream: 0x05060708, Length: 0x090a0b0c}, "\x01\x02\x03\x04\x05\x06\x07\x08\x09\x0a\x0b\x0c"},
	{api.Header{Version: 0xff, Type: 0xfe, Flags: 0xfdfc, Stream: 0xfbfaf9f8, Length: 0xf7f6f5f4}, "\xff\xfe\xfd\xfc\xfb\xfa\xf9\xf8\xf7\xf6\xf5\xf4"},
	{api.Header{Version: 255, Type: 255, Flags: 65535, Stream: top, Length: top}, strings.Repeat("\xff", 12)},
}

func TestP4_1_Encode(t *testing.T) {
	for _, c := range writings {
		if got := frame.Encode(c.h); string(got) != c.b {
			t.Errorf("Encode(%+v): %x, want %x", c.h, got, c.b)
		}
	}
}

func TestP4_1_DecodeLooksAtTwelveBytesAlone(t *testing.T) {
	for _, c := range writings {
		for _, more := range []string{"", "a", "ab", strings.Repeat("\xee", 100)} {
			if got, err := frame.Decode([]byte(c.b + more)); got != c.h || err != nil {
				t.Errorf("Decode(%x): %+v, %v, want %+v", c.b+more, got, err, c.h)
			}
		}
	}
}

func TestP4_1_DecodeOfTooFewBytesIsShort(t *testing.T) {
	whole := bytes.Repeat([]byte{0xab}, 40)
	for _, b := range [][]byte{nil, {}} {
		if got, err := frame.Decode(b); got != (api.Header{}) || !sentinels.Just(err, api.ErrShort) {
			t.Errorf("Decode of nothing: %+v, %v", got, err)
		}
	}
	for n := range 12 { // the bytes behind them are spare room, and aren't the list's
		if got, err := frame.Decode(whole[:n]); got != (api.Header{}) || !sentinels.Just(err, api.ErrShort) {
			t.Errorf("Decode of %d bytes: %+v, %v", n, got, err)
		}
	}
	if _, err := frame.Decode(whole[:12]); err != nil {
		t.Errorf("Decode of twelve bytes: %v", err)
	}
}

func TestP4_1_SizeIsOfDataAlone(t *testing.T) {
	for kind := range 256 {
		for _, length := range edges {
			want := 0
			if kind == 0 {
				want = int(length)
			}
			for _, flags := range []uint16{0, syn, rst, 15, 65535} {
				h := api.Header{Version: uint8(length), Type: uint8(kind), Flags: flags, Stream: length, Length: length}
				if got := frame.Size(h); got != want {
					t.Errorf("Size(%+v): %d, want %d", h, got, want)
				}
			}
		}
	}
}

func TestP4_1_Bytes(t *testing.T) {
	for _, c := range []struct {
		f    api.Frame
		want string
	}{
		{api.Frame{Head: head(data, 0, 1, 2), Data: []byte("ab")}, "\x00\x00\x00\x00\x00\x00\x00\x01\x00\x00\x00\x02ab"},
		{api.Frame{}, strings.Repeat("\x00", 12)},
		{api.Frame{Data: []byte{}}, strings.Repeat("\x00", 12)},
		{api.Frame{Head: head(ping, syn, 0, 2)}, "\x00\x02\x00\x01\x00\x00\x00\x00\x00\x00\x00\x02"},
		{api.Frame{Head: head(window, fin, 1, top), Data: []byte{}}, "\x00\x01\x00\x04\x00\x00\x00\x01\xff\xff\xff\xff"},
		// headers that may not be
		{api.Frame{Head: api.Header{Version: 9, Flags: 65535, Length: 1}, Data: []byte("a")}, "\x09\x00\xff\xff\x00\x00\x00\x00\x00\x00\x00\x01a"},
		{api.Frame{Head: head(data, rst, 0, 3), Data: []byte("abc")}, "\x00\x00\x00\x08\x00\x00\x00\x00\x00\x00\x00\x03abc"},
		{api.Frame{Head: head(77, 0, 0, 9)}, "\x00\x4d\x00\x00\x00\x00\x00\x00\x00\x00\x00\x09"},
	} {
		if got, err := frame.Bytes(c.f); string(got) != c.want || err != nil {
			t.Errorf("Bytes(%+v): %x, %v, want %x", c.f, got, err, c.want)
		}
	}
}

func TestP4_1_BytesOfManyPayloads(t *testing.T) {
	for _, n := range []int{0, 1, 11, 12, 13, 255, 256, 65535, 65536, 65537, 1 << 20} {
		payload := bytes.Repeat([]byte("culvert"), n/7+1)[:n]
		h := head(data, 0, 1, uint32(n))
		got, err := frame.Bytes(api.Frame{Head: h, Data: payload})
		if want := append(frame.Encode(h), payload...); !bytes.Equal(got, want) || err != nil {
			t.Errorf("Bytes of a payload of %d bytes: %d bytes, %v", n, len(got), err)
		}
	}
}

func TestP4_1_BytesRefusesAnotherPayloadThanTheHeaderSays(t *testing.T) {
	for kind := range 256 {
		for _, length := range edges {
			for _, payload := range []string{"", "a", "ab", "abc"} {
				says := kind == 0 && int(length) == len(payload) || kind != 0 && payload == ""
				f := api.Frame{Head: head(uint8(kind), 0, 1, length), Data: []byte(payload)}
				got, err := frame.Bytes(f)
				if says && (err != nil || len(got) != 12+len(payload)) {
					t.Errorf("Bytes(%+v): %x, %v", f, got, err)
				}
				if !says && (len(got) != 0 || !sentinels.Just(err, api.ErrLength)) {
					t.Errorf("Bytes(%+v): %x, %v, want ErrLength", f, got, err)
				}
			}
		}
	}
}

func TestP4_1_Text(t *testing.T) {
	for _, c := range []struct {
		h    api.Header
		want string
	}{
		{api.Header{}, "data stream 0 length 0"},
		{head(data, syn|fin, 3, 2), "data syn fin stream 3 length 2"},
		{head(window, rst, 5, 0), "window rst stream 5 length 0"},
		{head(ping, ack, 0, top), "ping ack stream 0 length 4294967295"},
		{head(away, 0, 0, 1), "away stream 0 length 1"},
		{head(4, 0, 10, 100), "type 4 stream 10 length 100"},
		{head(255, fin, top, 7), "type 255 fin stream 4294967295 length 7"},
		{api.Header{Version: 1}, "data version 1 stream 0 length 0"},
		{api.Header{Version: 255, Flags: 31}, "data version 255 syn ack fin rst flags 16 stream 0 length 0"},
		{api.Header{Version: 7, Type: 200, Flags: 49153}, "type 200 version 7 syn flags 49152 stream 0 length 0"},
		{head(data, 65535, 1, 1), "data syn ack fin rst flags 65520 stream 1 length 1"},
		{head(data, 16, 1, 1), "data flags 16 stream 1 length 1"},
		{head(window, 32768|rst, 1, 1), "window rst flags 32768 stream 1 length 1"},
	} {
		if got := frame.Text(c.h); got != c.want {
			t.Errorf("Text(%+v): %q, want %q", c.h, got, c.want)
		}
	}
}

// plainText writes a header as the chapter's list says it, without the program's tables.
func plainText(h api.Header) string {
	text := fmt.Sprint("type ", h.Type)
	switch h.Type {
	case 0:
		text = "data"
	case 1:
		text = "window"
	case 2:
		text = "ping"
	case 3:
		text = "away"
	}
	if h.Version > 0 {
		text += fmt.Sprint(" version ", h.Version)
	}
	for i, word := range []string{" syn", " ack", " fin", " rst"} {
		if h.Flags>>i%2 == 1 {
			text += word
		}
	}
	if h.Flags > 15 {
		text += fmt.Sprint(" flags ", h.Flags/16*16)
	}
	return text + fmt.Sprintf(" stream %d length %d", h.Stream, h.Length)
}

func TestP4_1_TextOfManyHeaders(t *testing.T) {
	for _, h := range samples() {
		if got, want := frame.Text(h), plainText(h); got != want {
			t.Fatalf("Text(%+v): %q, want %q", h, got, want)
		}
	}
	for flags := range 1 << 16 {
		h := head(window, uint16(flags), 1, 2)
		if got, want := frame.Text(h), plainText(h); got != want {
			t.Fatalf("Text(%+v): %q, want %q", h, got, want)
		}
	}
}

func TestP4_2_Check(t *testing.T) {
	for _, c := range []struct {
		h    api.Header
		most int
		err  error
	}{
		{head(data, fin, 3, 2), 2, nil},
		{head(data, fin, 3, 3), 2, api.ErrLength},
		{api.Header{Version: 1, Type: 9, Flags: 77, Length: 9}, 2, api.ErrVersion},
		{head(4, 0, 0, 0), 2, api.ErrType},
		{head(data, syn|ack, 0, 9), 2, api.ErrFlags},
		{head(window, 16, 1, 0), 2, api.ErrFlags},
		{head(ping, 0, 0, 7), 2, api.ErrFlags},
		{head(ping, syn, 1, 7), 2, api.ErrID},
		{head(data, 0, 0, 9), 2, api.ErrID},
		{head(window, rst, 5, 1), 2, api.ErrLength},
		{head(window, syn|fin, 5, top), 0, nil},
		{head(data, 0, 5, 0), -3, nil},
		{head(away, 0, 0, 3), 2, api.ErrLength},
		// a Data's length, against most
		{head(data, 0, 5, 1), 0, api.ErrLength},
		{head(data, 0, 5, 1), -3, api.ErrLength},
		{head(data, 0, 5, 0), math.MinInt, nil},
		{head(data, 0, 5, 1), math.MinInt, api.ErrLength},
		{head(data, 0, 5, top), math.MinInt, api.ErrLength},
		{head(data, 0, 5, api.MaxFrame), api.MaxFrame, nil},
		{head(data, 0, 5, api.MaxFrame+1), api.MaxFrame, api.ErrLength},
		{head(data, 0, 5, 1<<31), 1<<31 - 1, api.ErrLength},
		{head(data, 0, 5, top), top - 1, api.ErrLength},
		{head(data, 0, 5, top), top, nil},
		{head(data, 0, 5, top), top + 1, nil},
		{head(data, 0, 5, 1), 1 << 32, nil},
		{head(data, 0, 5, top), math.MaxInt, nil},
		// an RST's length, whatever most is
		{head(data, rst, 5, 0), 0, nil},
		{head(data, rst, 5, 0), -1, nil},
		{head(data, rst, 5, 1), 2, api.ErrLength},
		{head(data, rst, 5, 1), math.MaxInt, api.ErrLength},
		{head(window, rst, 5, 0), 0, nil},
		{head(window, rst, 5, top), math.MaxInt, api.ErrLength},
		// most is for Data alone
		{head(window, 0, top, top), math.MinInt, nil},
		{head(ping, syn, 0, top), 0, nil},
		{head(ping, ack, 0, 0), 0, nil},
		{head(away, 0, 0, 0), 0, nil},
		{head(away, 0, 0, 2), 0, nil},
		{head(away, 0, 0, 3), math.MaxInt, api.ErrLength},
		{head(away, 0, 0, top), math.MaxInt, api.ErrLength},
	} {
		if err := frame.Check(c.h, c.most); !sentinels.Just(err, c.err) {
			t.Errorf("Check(%+v, %d): %v, want %v", c.h, c.most, err, c.err)
		}
	}
}

// plainCheck says of a header what the chapter's tables say, in numbers, without the program's tables.
func plainCheck(h api.Header, most int) error {
	flags := map[uint8][]uint16{0: {0, 1, 2, 4, 5, 6, 8}, 1: {0, 1, 2, 4, 5, 6, 8}, 2: {1, 2}, 3: {0}}
	if h.Version > 0 {
		return api.ErrVersion
	}
	if h.Type > 3 {
		return api.ErrType
	}
	if !slices.Contains(flags[h.Type], h.Flags) {
		return api.ErrFlags
	}
	if h.Type < 2 && h.Stream == 0 || h.Type >= 2 && h.Stream > 0 {
		return api.ErrID
	}
	long := h.Length > 0
	if h.Type == 0 && long && (most < 0 || h.Length > uint32(min(most, top))) || h.Type < 2 && h.Flags == 8 && long || h.Type == 3 && h.Length > 2 {
		return api.ErrLength
	}
	return nil
}

func TestP4_2_CheckOfEveryVersionTypeAndFlags(t *testing.T) {
	for version := range 3 {
		for kind := range 6 {
			for flags := range 1 << 16 {
				h := api.Header{Version: uint8(version), Type: uint8(kind), Flags: uint16(flags), Stream: uint32(flags % 2), Length: 3}
				if err := frame.Check(h, 2); err != plainCheck(h, 2) {
					t.Fatalf("Check(%+v, 2): %v, want %v", h, err, plainCheck(h, 2))
				}
			}
		}
	}
	for v := range 256 {
		for _, h := range []api.Header{{Version: uint8(v), Stream: 1}, {Type: uint8(v), Stream: 1}, {Type: uint8(v)}} {
			if err := frame.Check(h, 2); err != plainCheck(h, 2) {
				t.Errorf("Check(%+v, 2): %v, want %v", h, err, plainCheck(h, 2))
			}
		}
	}
}

func TestP4_2_CheckOfEveryStreamAndLengthAtTheEdges(t *testing.T) {
	mosts := []int{math.MinInt, -top, -1, 0, 1, 2, 3, 65535, 65536, 1<<31 - 1, 1 << 31, top - 1, top, top + 1, 1<<32 + 2, math.MaxInt}
	for kind := range uint8(5) {
		for flags := range uint16(20) {
			for _, stream := range edges {
				for _, length := range edges {
					for _, most := range mosts {
						h := head(kind, flags, stream, length)
						if err := frame.Check(h, most); err != plainCheck(h, most) {
							t.Fatalf("Check(%+v, %d): %v, want %v", h, most, err, plainCheck(h, most))
						}
					}
				}
			}
		}
	}
}

// Each header has all that the table's later lines refuse wrong too: so only the order decides.
func TestR2_CheckFailsWithTheFirstLineThatDoesNotHold(t *testing.T) {
	for _, c := range []struct {
		h   api.Header
		err error
	}{
		{api.Header{Version: 1, Type: 4, Flags: 3, Stream: 0, Length: 9}, api.ErrVersion},
		{api.Header{Type: 4, Flags: 3, Stream: 0, Length: 9}, api.ErrType},
		{head(data, rst|syn, 0, 9), api.ErrFlags},
		{head(window, rst|fin, 0, 9), api.ErrFlags},
		{head(ping, rst, 1, 9), api.ErrFlags},
		{head(away, syn, 1, 9), api.ErrFlags},
		{head(data, rst, 0, 9), api.ErrID},
		{head(window, rst, 0, 9), api.ErrID},
		{head(away, 0, 1, 9), api.ErrID},
	} {
		if err := frame.Check(c.h, 2); !sentinels.Just(err, c.err) {
			t.Errorf("Check(%+v, 2): %v, want %v", c.h, err, c.err)
		}
	}
}

func TestP4_3_DecodeReadsWhatEncodeWrites(t *testing.T) {
	for _, h := range samples() {
		if got, err := frame.Decode(frame.Encode(h)); got != h || err != nil {
			t.Fatalf("Decode(Encode(%+v)): %+v, %v", h, got, err)
		}
	}
}

func TestP4_3_EncodeWritesWhatDecodeReads(t *testing.T) {
	same := func(b []byte) {
		t.Helper()
		h, err := frame.Decode(b)
		if got := frame.Encode(h); err != nil || !bytes.Equal(got, b) {
			t.Errorf("Encode(Decode(%x)): %x, %v", b, got, err)
		}
	}
	for place := range 12 { // each byte by itself, so that none is taken for another
		for v := range 256 {
			b := make([]byte, 12)
			b[place] = byte(v)
			same(b)
		}
	}
	d := draws.Draws(12)
	for range 5000 {
		b := make([]byte, 12)
		for i := range b {
			b[i] = byte(d.Below(256))
		}
		same(b)
	}
}

// parse reads a Text: where it gives back the header, no other header has that Text.
func parse(text string) api.Header {
	var h api.Header
	words := strings.Split(text, " ")
	number := func(i int) uint64 {
		v, _ := strconv.ParseUint(words[i], 10, 32)
		return v
	}
	for i, word := range words {
		switch word {
		case "window", "ping", "away":
			h.Type = uint8(slices.Index([]string{"data", "window", "ping", "away"}, word))
		case "syn", "ack", "fin", "rst":
			h.Flags |= 1 << slices.Index([]string{"syn", "ack", "fin", "rst"}, word)
		case "type":
			h.Type = uint8(number(i + 1))
		case "version":
			h.Version = uint8(number(i + 1))
		case "flags":
			h.Flags |= uint16(number(i + 1))
		case "stream":
			h.Stream = uint32(number(i + 1))
		case "length":
			h.Length = uint32(number(i + 1))
		}
	}
	return h
}

func TestP4_3_HeadersWithOneTextAreEqual(t *testing.T) {
	for _, h := range samples() {
		if got := parse(frame.Text(h)); got != h {
			t.Fatalf("the Text of %+v, %q, reads as %+v", h, frame.Text(h), got)
		}
	}
}

func TestP4_4_WhatEncodeAnswersIsNew(t *testing.T) {
	for _, c := range writings {
		first, second := frame.Encode(c.h), frame.Encode(c.h)
		specimens.Spoil(first)
		if string(second) != c.b || string(frame.Encode(c.h)) != c.b {
			t.Errorf("Encode(%+v) shares memory with another answer", c.h)
		}
	}
}

// inRoom: a list of n bytes with room ahead of it and behind it, and the whole room.
func inRoom(n int) (list, room []byte) {
	room = bytes.Repeat([]byte("room"), n/4+10)
	return room[5 : 5+n], room
}

func TestP4_4_WhatBytesAnswersIsNew(t *testing.T) {
	for _, n := range []int{0, 1, 12, 100, 70000} {
		for _, kind := range []uint8{data, ping} {
			payload, room := inRoom(n)
			if kind != data {
				payload = payload[:0]
			}
			before := bytes.Clone(room)
			f := api.Frame{Head: head(kind, 0, 1, uint32(n)), Data: payload}
			first, err := frame.Bytes(f)
			second, _ := frame.Bytes(f)
			want := bytes.Clone(second)
			if err != nil {
				t.Fatalf("Bytes of a payload of %d bytes: %v", n, err)
			}
			specimens.Spoil(first)
			if !bytes.Equal(room, before) {
				t.Errorf("what Bytes answers of %d bytes shares memory with the payload, or changed it", n)
			}
			if !bytes.Equal(second, want) {
				t.Errorf("what Bytes answers of %d bytes shares memory with another answer", n)
			}
			specimens.Spoil(room)
			if !bytes.Equal(second, want) {
				t.Errorf("what Bytes answered of %d bytes changes with the payload", n)
			}
		}
	}
}

func TestP4_4_WhatIsHandedInStays(t *testing.T) {
	for _, n := range []int{0, 3, 11, 12, 13, 40} {
		b, room := inRoom(n)
		before := bytes.Clone(room)
		_, _ = frame.Decode(b)
		_, _ = frame.Bytes(api.Frame{Head: head(data, 0, 1, 12), Data: b})
		if !bytes.Equal(room, before) {
			t.Errorf("%d bytes that were handed in have changed", n)
		}
	}
}

func TestR9_NoCallHangsOnTheOnesBefore(t *testing.T) {
	h := head(window, ack|fin, 6, 300)
	want := frame.Text(h)
	for _, other := range samples()[:200] {
		_, _, _ = frame.Text(other), frame.Encode(other), frame.Check(other, 9)
		if got := frame.Text(h); got != want || frame.Check(h, 0) != nil {
			t.Fatalf("behind %+v: %q", other, got)
		}
	}
}
