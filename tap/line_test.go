package tap_test

import (
	"bytes"
	"fmt"
	"math"
	"strings"
	"testing"

	"culvert/api"
	"culvert/draws"
	"culvert/frame"
	"culvert/script"
	"culvert/sentinels"
	"culvert/specimens"
	"culvert/tap"
)

const (
	syn = api.FlagSYN
	ack = api.FlagACK
	fin = api.FlagFIN
	rst = api.FlagRST
)

const (
	data   = api.TypeData
	window = api.TypeWindow
	ping   = api.TypePing
	away   = api.TypeAway
)

const top = math.MaxUint32

// edges are the numbers around which fields, digits and flags change.
var edges = []uint32{0, 1, 2, 3, 4, 5, 7, 8, 9, 10, 15, 16, 17, 31, 32, 99, 100, 255, 256, 4096, 32768, 65520, 65535, 65536, 1 << 24, 1<<31 - 1, 1 << 31, top - 1, top}

// frames are such as have a line, with each in words of the chapter.
var frames = []struct {
	f    api.Frame
	line string
}{
	{specimens.Data(syn|fin, 3, "a "), "data syn fin stream 3 length 2 a%20"},
	{specimens.Data(0, 1, ""), "data stream 1 length 0 %"},
	{specimens.Bare(window, ack, 7, 0), "window ack stream 7 length 0"},
	{specimens.Bare(ping, syn, 0, top), "ping syn stream 0 length 4294967295"},
	{api.Frame{Head: api.Header{Version: 7, Type: 200, Flags: 49153}}, "type 200 version 7 syn flags 49152 stream 0 length 0"},

	{api.Frame{}, "data stream 0 length 0 %"},
	{specimens.Data(0, 1, "%"), "data stream 1 length 1 %25"},
	{specimens.Data(0, 1, "%25"), "data stream 1 length 3 %2525"},
	{specimens.Data(0, 1, "\x00\t\n\r ~\x7f\xff"), "data stream 1 length 8 %00%09%0a%0d%20~%7f%ff"},
	{specimens.Data(rst, top, "#"), "data rst stream 4294967295 length 1 #"},
	{specimens.Data(65535, 0, "5"), "data syn ack fin rst flags 65520 stream 0 length 1 5"},
	{api.Frame{Head: api.Header{Version: 255, Flags: 16, Stream: 1, Length: 2}, Data: []byte("é")}, "data version 255 flags 16 stream 1 length 2 %c3%a9"},
	{specimens.Bare(window, 0, 0, 0), "window stream 0 length 0"},
	{specimens.Bare(window, rst|fin, top, top), "window fin rst stream 4294967295 length 4294967295"},
	{specimens.Bare(away, 0, 0, 3), "away stream 0 length 3"},
	{specimens.Bare(4, 0, 0, 0), "type 4 stream 0 length 0"},
	{specimens.Bare(255, 32768, 10, 100), "type 255 flags 32768 stream 10 length 100"},
	{api.Frame{Head: api.Header{Version: 1, Type: away, Flags: ack}}, "away version 1 ack stream 0 length 0"},
}

// isFrame: did a call answer this frame, and no error?
func isFrame(f api.Frame, err error, want api.Frame) bool {
	return err == nil && specimens.Same([]api.Frame{f}, []api.Frame{want})
}

// isNoFrame: did a call fail with want, and answer the zero frame beside it?
func isNoFrame(f api.Frame, err, want error) bool {
	return sentinels.Just(err, want) && f.Head == api.Header{} && len(f.Data) == 0
}

func TestP26_1_Line(t *testing.T) {
	for _, c := range frames {
		if got, err := tap.Line(c.f); got != c.line || err != nil {
			t.Errorf("Line(%v): %q, %v, want %q", c.f, got, err, c.line)
		}
	}
}

// A payload that the header doesn't say has no line, whatever the type is: only Data has any.
func TestP26_1_LineRefusesAnotherPayloadThanTheHeaderSays(t *testing.T) {
	for kind := range 256 {
		for _, length := range edges {
			for _, payload := range []string{"", "a", "ab", "abc", strings.Repeat(" ", 256)} {
				f := specimens.Bare(uint8(kind), 0, 1, length)
				f.Data = []byte(payload)
				says := kind == 0 && int(length) == len(payload) || kind != 0 && payload == ""
				got, err := tap.Line(f)
				if says && (got == "" || err != nil) {
					t.Fatalf("Line(%v): %q, %v", f, got, err)
				}
				if !says && (got != "" || !sentinels.Just(err, api.ErrLength)) {
					t.Fatalf("Line(%v): %q, %v, want ErrLength", f, got, err)
				}
			}
		}
	}
}

func TestP26_1_LineIsFramesTextAndThePayloads(t *testing.T) {
	d := draws.Draws(26)
	for range 20000 {
		f := anyFrame(&d)
		want := frame.Text(f.Head)
		if f.Head.Type == data {
			want += " " + script.Told(f.Data)
		}
		if got, err := tap.Line(f); got != want || err != nil {
			t.Fatalf("Line(%v): %q, %v, want %q", f, got, err, want)
		}
	}
}

func TestP26_2_Parse(t *testing.T) {
	for _, c := range frames {
		if got, err := tap.Parse(c.line); !isFrame(got, err, c.f) {
			t.Errorf("Parse(%q): %v, %v, want %v", c.line, got, err, c.f)
		}
	}
	f, err := tap.Parse("data stream 1 length 2 ab")
	if !isFrame(f, err, specimens.Data(0, 1, "ab")) {
		t.Errorf("Parse of the chapter's example: %v, %v", f, err)
	}
}

func TestP26_2_ParseOfNoFramesWord(t *testing.T) {
	for _, line := range []string{
		"hello", "Data stream 1 length 0 %", "", " ", "  ", "\t", "\n", "#", "# data stream 1 length 0 %", "%",
		" data stream 1 length 0 %", "\tdata stream 1 length 0 %", "\rping syn stream 0 length 0",
		"data\tstream 1 length 0 %", "data\rstream 1 length 0 %", "data\nstream 1 length 0 %", "data\t", "ping\r", "away\n", "type\x00",
		"dat", "dataa", "dat a", "windo", "windows", "pin", "pings syn stream 0 length 0", "awa", "aways", "typ", "types 4", "DATA", "Ping",
		"bytes", "bytes %", "syn", "stream 1 length 0", "version 1", "flags 16", "length 0", "0 stream 1 length 0", "\xff", "data\xff x", "d\x61ta\u00a0stream 1",
		"hello data stream 1 length 0 %", "hello data stream 1 length 3 ab",
	} {
		if f, err := tap.Parse(line); !isNoFrame(f, err, api.ErrWord) {
			t.Errorf("Parse(%q): %v, %v, want ErrWord", line, f, err)
		}
	}
}

func TestP26_2_ParseOfAnotherLength(t *testing.T) {
	for _, line := range []string{
		"data stream 1 length 3 ab", "data stream 1 length 1 ab", "data stream 1 length 0 ab", "data stream 1 length 1 %", "data stream 1 length 4294967295 %",
		"data stream 1 length 0 %25", "data stream 1 length 3 %00", "data stream 1 length 2 %25", "data stream 1 length 9 a%20",
		"data syn ack fin rst flags 65520 stream 0 length 1 55", "data version 255 stream 4294967295 length 4294967295 x",
		"data stream 1 length 65536 " + strings.Repeat("a", 65535), "data stream 1 length 65536 " + strings.Repeat("a", 65537),
	} {
		if f, err := tap.Parse(line); !isNoFrame(f, err, api.ErrLength) {
			t.Errorf("Parse(%q): %v, %v, want ErrLength", line, f, err)
		}
	}
}

// wrong are lines that begin as a frame's and are none, of another length or not.
var wrong = []string{
	"data stream 1 length 2", "window stream 1 length 2 ab", "data fin syn stream 1 length 0 %", "data stream 01 length 0 %",
	"type 3 stream 0 length 0", "ping syn stream 0 length 4294967296",
	// words that are missing, and too many
	"data", "window", "ping", "away", "type", "data ", "ping ", "type ", "type 4", "type 4 ", "data %", "data ab", "data stream", "data stream 1", "data stream 1 %",
	"data stream 1 length", "data stream 1 length %", "data length 0 %", "data stream length 0 %", "window stream 1", "window stream 1 length", "window length 0",
	"data stream 1 length 0 % %", "data stream 1 length 2 a b", "data stream 1 length 1 a %", "window stream 1 length 0 %", "ping syn stream 0 length 0 %", "type 4 stream 0 length 0 %",
	"data data stream 1 length 0 %", "ping ping stream 0 length 0", "ping away stream 0 length 0", "data window stream 1 length 0 %", "window data stream 1 length 0",
	"data stream 1 stream 1 length 0 %", "data stream 1 length 0 length 0 %", "data stream 2 stream 1 length 0 %", "data x stream 1 length 0 %", "ping hello stream 0 length 0", "ping syn stream 0 length 0 length", "ping syn stream 0 length 0 syn",
	// blanks
	"ping  syn stream 0 length 0", "ping syn stream 0 length 0 ", "ping syn stream  0 length 0", "data stream 1 length 0  %", "data stream 1 length 0 % ", "data  stream 1 length 0 %", "data stream 1  length 0 %",
	"ping syn stream 0 length 0\r", "ping syn stream 0 length 0\n", "ping syn\tstream 0 length 0", "data stream 1 length 0 %\r", "data stream 1 length 0 %\n", "data stream 1 length 0\t%", "ping syn stream 0 length\n0",
	"data stream 1 length 1 \n", "data stream 1 length 1 \t", "data stream 1 length 1  ", "data stream 1 length 0 ",
	// the order
	"data length 0 stream 1 %", "data ack syn stream 1 length 0 %", "data rst fin stream 1 length 0 %", "window rst ack stream 1 length 0", "ping stream 0 syn length 0", "ping stream 0 length 0 syn",
	"data flags 16 syn stream 1 length 0 %", "data syn version 1 stream 1 length 0 %", "data flags 16 version 1 stream 1 length 0 %", "type version 1 4 stream 0 length 0", "data stream 1 version 1 length 0 %", "data stream 1 flags 16 length 0 %", "data stream 1 length 0 version 1 %",
	// twice
	"data syn syn stream 1 length 0 %", "data rst rst stream 1 length 0 %", "data version 1 version 1 stream 1 length 0 %", "data version 2 version 1 stream 1 length 0 %", "data flags 16 flags 16 stream 1 length 0 %", "data flags 16 flags 32 stream 1 length 0 %", "type 4 type 4 stream 0 length 0", "type 5 4 stream 0 length 0",
	// numbers
	"data stream 1 length 00 %", "data stream 00 length 0 %", "type 04 stream 0 length 0", "ping version 01 stream 0 length 0", "ping flags 016 stream 0 length 0", "ping stream +1 length 0", "ping stream -1 length 0", "ping stream -0 length 0", "ping stream 1_0 length 0", "ping stream 0x1 length 0", "ping stream 1.0 length 0", "ping stream 1e1 length 0", "ping stream a length 0", "ping stream \u0661 length 0", "ping stream % length 0",
	"ping stream 4294967296 length 0", "ping stream 4294967297 length 0", "ping stream 18446744073709551616 length 0", "ping stream 18446744073709551617 length 0", "ping stream 340282366920938463463374607431768211457 length 0", "data stream 1 length 4294967296 %", "data stream 1 length 4294967297 a", "ping stream 0 length 99999999999",
	// numbers that have no such words
	"type 0 stream 1 length 0", "type 0 stream 1 length 0 %", "type 1 stream 1 length 0", "type 2 syn stream 0 length 0", "type 256 stream 0 length 0", "type 260 stream 0 length 0", "type 4294967300 stream 0 length 0", "type -4 stream 0 length 0", "type data stream 0 length 0", "type ping stream 0 length 0", "type stream 0 length 0",
	"ping version 0 stream 0 length 0", "ping version 256 stream 0 length 0", "ping version 257 stream 0 length 0", "ping version 4294967297 stream 0 length 0", "ping version -1 stream 0 length 0", "ping version stream 0 length 0", "data version 0 stream 1 length 0 %",
	"ping flags 0 stream 0 length 0", "ping flags 1 stream 0 length 0", "ping flags 8 stream 0 length 0", "ping flags 15 stream 0 length 0", "ping flags 17 stream 0 length 0", "ping syn flags 17 stream 0 length 0", "ping syn flags 1 stream 0 length 0", "ping syn ack fin rst flags 65535 stream 0 length 0", "ping flags 65536 stream 0 length 0", "ping flags 65552 stream 0 length 0", "ping flags stream 0 length 0",
	"type 200 version 7 syn flags 49153 stream 0 length 0", "type 200 flags 16 version 7 stream 0 length 0",
	// payloads that are no text of a byte list
	"data stream 1 length 1 %61", "data stream 1 length 1 %FF", "data stream 1 length 1 %0A", "data stream 1 length 1 %2", "data stream 1 length 2 %%", "data stream 1 length 1 %g0", "data stream 1 length 1 \x00", "data stream 1 length 1 \x7f", "data stream 1 length 1 \xff", "data stream 1 length 1 a%", "data stream 1 length 2 é",
	// of another length, and with one thing more
	"data stream 01 length 2 %", "data fin syn stream 1 length 2 %", "data  stream 1 length 2 %", "data stream 1 length 02 %", "data stream 1 length 4294967296 ab", "data stream 1 length 3 %61", "data stream 1 length 3 ab ", "data version 0 stream 1 length 3 ab", "data flags 8 stream 1 length 3 ab", "data syn syn stream 1 length 3 ab", "data stream 4294967296 length 3 ab", "data stream 1 length 3 ab c", "data stream 1 length 3  ab",
	// capitals
	"data SYN stream 1 length 0 %", "data Stream 1 length 0 %", "data stream 1 Length 0 %", "ping VERSION 1 stream 0 length 0", "type 4 Flags 16 stream 0 length 0",
}

func TestP26_2_ParseOfWhatBeginsAsAFramesLineAndIsNone(t *testing.T) {
	for _, line := range wrong {
		if f, err := tap.Parse(line); !isNoFrame(f, err, api.ErrArgument) {
			t.Errorf("Parse(%q): %v, %v, want ErrArgument", line, f, err)
		}
	}
}

// Each beginning of a line, each line with a byte more, without one or with another one in its place.
func TestP26_2_ParseOfLinesThatAreOffByAByte(t *testing.T) {
	for _, c := range frames {
		for i := range len(c.line) + 1 {
			holdParse(t, c.line[:i])
			for _, b := range []string{" ", "0", "1", "9", "a", "%", "f", "\n", "\t", "-", "#", "\x00", "\xff"} {
				holdParse(t, c.line[:i]+b+c.line[i:])
				if i < len(c.line) {
					holdParse(t, c.line[:i]+b+c.line[i+1:])
				}
			}
			if i < len(c.line) {
				holdParse(t, c.line[:i]+c.line[i+1:])
			}
		}
	}
}

// Each word of a line left out, put twice, put in another's place, and each two of them changed for each other.
func TestP26_2_ParseOfLinesThatAreOffByAWord(t *testing.T) {
	for _, c := range frames {
		words := strings.Split(c.line, " ")
		for i := range words {
			holdParse(t, join(words[:i], words[i+1:]))
			for j := range words {
				holdParse(t, join(words[:j], words[i:i+1], words[j:]))
				holdParse(t, join(words[:j], words[i:i+1], words[j+1:]))
				if i < j {
					holdParse(t, join(words[:i], words[j:j+1], words[i+1:j], words[i:i+1], words[j+1:]))
				}
			}
		}
	}
}

// join: all words of the lists, with a blank between each two.
func join(lists ...[]string) string {
	var all []string
	for _, list := range lists {
		all = append(all, list...)
	}
	return strings.Join(all, " ")
}

// Every header with one field at an edge, in both directions, and number by number what its words can be.
func TestP26_2_ParseOfEachNumberInEachPlace(t *testing.T) {
	for n := range 70000 {
		holdParse(t, fmt.Sprintf("type %d stream 0 length 0", n))
		holdParse(t, fmt.Sprintf("away version %d stream 0 length 0", n))
		holdParse(t, fmt.Sprintf("window flags %d stream 1 length 0", n))
	}
	for _, n := range edges {
		holdParse(t, fmt.Sprintf("window stream %d length %d", n, n))
		holdParse(t, fmt.Sprintf("data stream %d length %d %%", n, n))
		holdParse(t, fmt.Sprintf("ping stream 0 length %d0", n))
	}
}

func TestP26_7_LineAndParseAreEachOthersInverse(t *testing.T) {
	d := draws.Draws(7)
	for range 30000 {
		f := anyFrame(&d)
		line, err := tap.Line(f)
		if err != nil {
			t.Fatalf("Line(%v): %v", f, err)
		}
		back, err := tap.Parse(line)
		if !isFrame(back, err, f) {
			t.Fatalf("Parse(%q): %v, %v, want %v", line, back, err, f)
		}
	}
}

func TestP26_7_EveryLineThatParseTakesIsItsFrames(t *testing.T) {
	d := draws.Draws(77)
	taken := 0
	for range 60000 {
		line := drawnLine(&d)
		f, err := tap.Parse(line)
		if err != nil {
			continue
		}
		taken++
		if again, err := tap.Line(f); again != line || err != nil {
			t.Fatalf("Line(Parse(%q)): %q, %v", line, again, err)
		}
	}
	if taken < 5000 {
		t.Errorf("Parse took only %d of the lines", taken)
	}
}

// All frames of small fields: each has a line that no other has.
func TestP26_7_UnlikeFramesHaveUnlikeLines(t *testing.T) {
	seen := map[string]string{}
	for _, version := range []uint8{0, 1, 10} {
		for _, kind := range []uint8{0, 1, 2, 3, 4, 41} {
			for flags := range uint16(33) {
				for _, stream := range []uint32{0, 1, 11} {
					for _, payload := range []string{"", "%", "%25", "a", " ", "a ", "0"} {
						f := api.Frame{Head: api.Header{Version: version, Type: kind, Flags: flags, Stream: stream, Length: uint32(len(payload))}}
						if kind == data {
							f.Data = []byte(payload)
						}
						line, err := tap.Line(f)
						if err != nil {
							t.Fatalf("Line(%v): %v", f, err)
						}
						is := fmt.Sprint(f)
						if was, ok := seen[line]; ok && was != is {
							t.Fatalf("%q is the line of %s and of %s", line, was, is)
						}
						seen[line] = is
					}
				}
			}
		}
	}
}

func TestP26_10_LineKeepsItsFrameAsItIs(t *testing.T) {
	room := []byte("ab cd and room")
	f := api.Frame{Head: api.Header{Stream: 1, Length: 5}, Data: room[:5]}
	line, err := tap.Line(f)
	if err != nil || string(room) != "ab cd and room" {
		t.Fatalf("Line: %v; the payload and what is behind it: %q", err, room)
	}
	specimens.Spoil(room)
	if line != "data stream 1 length 5 ab%20cd" {
		t.Errorf("the line hangs on the payload: %q", line)
	}
}

func TestR6_WhatParseAnswersIsNew(t *testing.T) {
	const line = "data stream 1 length 3 a%20b"
	one, _ := tap.Parse(line)
	two, _ := tap.Parse(line)
	specimens.Spoil(one.Data)
	if !bytes.Equal(two.Data, []byte("a b")) {
		t.Errorf("one answer's payload is another's: %q", two.Data)
	}
	if again, err := tap.Parse(line); !isFrame(again, err, specimens.Data(0, 1, "a b")) {
		t.Errorf("Parse the third time: %v, %v", again, err)
	}
}

func TestP1_GreatLinesAreReadToo(t *testing.T) {
	payload := strings.Repeat("%00a", 1<<20)
	f, err := tap.Parse(fmt.Sprintf("data stream 1 length %d %s", 2<<20, payload))
	if err != nil || len(f.Data) != 2<<20 {
		t.Errorf("a payload of 2^21 bytes: %d, %v", len(f.Data), err)
	}
	for _, many := range []string{" ", "syn ", "stream ", "stream 1 ", "%"} {
		for _, first := range []string{"data ", "ping "} {
			if f, err := tap.Parse(first + strings.Repeat(many, 1<<20)); !isNoFrame(f, err, api.ErrArgument) {
				t.Errorf("%q and 2^20 times %q: %v, want ErrArgument", first, many, err)
			}
		}
	}
}
