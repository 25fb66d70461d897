package tap_test

import (
	"bytes"
	"strings"
	"testing"

	"culvert/api"
	"culvert/draws"
	"culvert/frame"
	"culvert/sentinels"
	"culvert/specimens"
	"culvert/tap"
)

func TestP26_3_Assemble(t *testing.T) {
	pong := "\x00\x02\x00\x02\x00\x00\x00\x00\x00\x00\x00\x09"
	for _, c := range []struct{ text, want string }{
		{"# a remark\n\nping ack stream 0 length 9\nbytes %00%01\n", pong + "\x00\x01"},
		{"bytes %", ""},
		{"", ""}, {"\n", ""}, {"\n\n\n", ""}, {" ", ""}, {"\t\r \n \r", ""}, {"#", ""}, {"##", ""}, {"#broken length stream 5\n", ""},
		{" #", ""}, {"\t\r# ping", ""}, {"#bytes", ""}, {"# bytes %0", ""}, {"\r", ""},
		{"bytes a", "a"}, {"bytes bytes", "bytes"}, {"bytes #", "#"}, {"bytes %25%0a%ff", "%\n\xff"}, {"bytes data", "data"},
		{"bytes a\nbytes b\n#\nbytes c", "abc"}, {"bytes b\nbytes a", "ba"}, {"\nbytes a\n\nbytes b\n", "ab"},
		{"data stream 1 length 1 #", "\x00\x00\x00\x00\x00\x00\x00\x01\x00\x00\x00\x01#"},
		{"data stream 1 length 2 a%0a\nping ack stream 0 length 9\nping ack stream 0 length 9", "\x00\x00\x00\x00\x00\x00\x00\x01\x00\x00\x00\x02a\n" + pong + pong},
		{"type 200 version 7 syn flags 49152 stream 0 length 5\nbytes x", "\x07\xc8\xc0\x01\x00\x00\x00\x00\x00\x00\x00\x05x"},
		{"ping ack stream 0 length 9\n\r\n \n", pong},
	} {
		if got, err := tap.Assemble(c.text); string(got) != c.want || err != nil {
			t.Errorf("Assemble(%q): %x, %v, want %x", c.text, got, err, c.want)
		}
	}
}

func TestP26_3_AssembleOfLinesThatAreNone(t *testing.T) {
	for _, c := range []struct {
		text string
		want error
	}{
		{"bytes", api.ErrArgument}, {"bytes  %", api.ErrArgument}, {" ping ack stream 0 length 9", api.ErrWord},
		{"bytes ", api.ErrArgument}, {" bytes %", api.ErrArgument}, {"\tbytes %", api.ErrArgument}, {"\rbytes", api.ErrArgument}, {"bytes % ", api.ErrArgument}, {"bytes %\r", api.ErrArgument},
		{"bytes\t%", api.ErrArgument}, {"bytes\r", api.ErrArgument}, {"bytes a b", api.ErrArgument}, {"bytes %61", api.ErrArgument}, {"bytes %FF", api.ErrArgument}, {"bytes \xff", api.ErrArgument}, {"bytes %\t", api.ErrArgument}, {"bytes \t%", api.ErrArgument}, {"  bytes  hello", api.ErrArgument},
		{"bytes%", api.ErrWord}, {"Bytes %", api.ErrWord}, {"byte %", api.ErrWord}, {"hello bytes %", api.ErrWord}, {"\x00bytes %", api.ErrWord}, {"bytes\x00 %", api.ErrWord},
		{"x#", api.ErrWord}, {"\x00", api.ErrWord}, {"\v", api.ErrWord}, {"\f#", api.ErrWord}, {"\u00a0", api.ErrWord}, {"\u0085#", api.ErrWord}, {"\xff", api.ErrWord}, {"%", api.ErrWord},
		{"\tping ack stream 0 length 9", api.ErrWord}, {"ping\tack stream 0 length 9", api.ErrWord}, {"ping ack stream 0 length 9\r", api.ErrArgument}, {"ping ack stream 0 length 9 #", api.ErrArgument}, {"ping ack stream 0 length 9 # a remark", api.ErrArgument},
		{"ping", api.ErrArgument}, {"data stream 1 length 3 ab", api.ErrLength}, {"data stream 1 length 3 ab #", api.ErrArgument},
		// the first such line says why, and what is ahead of it is lost
		{"bytes a\nhello\nbytes", api.ErrWord}, {"bytes a\nbytes\nhello", api.ErrArgument}, {"#\nbytes %\nhello\nbytes", api.ErrWord}, {"ping ack stream 0\nbytes", api.ErrArgument}, {"data stream 1 length 2 a\nx", api.ErrLength}, {"x\ndata stream 1 length 2 a", api.ErrWord}, {"bytes a\nping ack stream 0 length 9\nbytes a\n x", api.ErrWord},
	} {
		if got, err := tap.Assemble(c.text); len(got) != 0 || !sentinels.Just(err, c.want) {
			t.Errorf("Assemble(%q): %x, %v, want %v", c.text, got, err, c.want)
		}
	}
}

// A line alone is as good as one among others; what Parse refuses is refused for the same reason.
func TestP26_3_AssembleOfOneLineIsParses(t *testing.T) {
	for _, c := range frames {
		if got, err := tap.Assemble(c.line); !bytes.Equal(got, specimens.Bytes(c.f)) || err != nil {
			t.Errorf("Assemble(%q): %x, %v, want %x", c.line, got, err, specimens.Bytes(c.f))
		}
	}
	for _, line := range wrong {
		if strings.Contains(line, "\n") {
			continue // two lines, in a text
		}
		if got, err := tap.Assemble(line); len(got) != 0 || !sentinels.Just(err, api.ErrArgument) {
			t.Errorf("Assemble(%q): %x, %v, want ErrArgument", line, got, err)
		}
	}
}

// drawnText: a few lines of all kinds.
func drawnText(d *draws.Draws, spoil int) string {
	lines := []string{}
	for range d.Below(6) {
		line := ""
		switch d.Below(5) {
		case 0:
			line = []string{"", "#", " ", "\t# bytes", "\r", "#broken type stream 1", " #x y"}[d.Below(7)]
		case 1:
			line = "bytes " + plainTold(payload(d, 6))
		case 2:
			f := specimens.Data(0, 1, string(payload(d, 6)))
			if d.Below(100) < spoil {
				f.Head.Length = uint32(d.Below(7))
			}
			line = frame.Text(f.Head) + " " + plainTold(f.Data)
		default:
			line, _ = tap.Line(anyFrame(d))
		}
		if d.Below(100) < spoil {
			line = strings.ReplaceAll(spoiled(d, line), "\n", "")
		}
		lines = append(lines, line)
	}
	return strings.Join(lines, "\n")
}

// plainTold writes a byte list as chapter 25 says it.
func plainTold(b []byte) string {
	const sixteen = "0123456789abcdef"
	if len(b) == 0 {
		return "%"
	}
	text := ""
	for _, c := range b {
		if c < 0x21 || c > 0x7e || c == '%' {
			text += "%" + sixteen[c/16:c/16+1] + sixteen[c%16:c%16+1]
		} else {
			text += string(rune(c))
		}
	}
	return text
}

func TestP26_3_AssembleOfDrawnTexts(t *testing.T) {
	d := draws.Draws(3)
	failed := map[error]int{}
	for range 20000 {
		text := drawnText(&d, 20)
		want, why := plainAssemble(text)
		got, err := tap.Assemble(text)
		if !sentinels.Just(err, why) || !bytes.Equal(got, want) {
			t.Fatalf("Assemble(%q): %x, %v, want %x, %v", text, got, err, want, why)
		}
		failed[why]++
	}
	for _, why := range []error{nil, api.ErrWord, api.ErrLength, api.ErrArgument} {
		if failed[why] < 100 {
			t.Errorf("only %d texts with %v", failed[why], why)
		}
	}
}

func TestP26_8_TwoTextsAreTheOneBehindTheOther(t *testing.T) {
	d := draws.Draws(8)
	for range 10000 {
		one, two := drawnText(&d, 15), drawnText(&d, 15)
		a, errA := tap.Assemble(one)
		b, errB := tap.Assemble(two)
		both, err := tap.Assemble(one + "\n" + two)
		want, why := append(a[:len(a):len(a)], b...), errA
		if errA == nil {
			why = errB
		}
		if why != nil {
			want = nil
		}
		if !sentinels.Just(err, why) || !bytes.Equal(both, want) {
			t.Fatalf("Assemble(%q and %q): %x, %v, want %x, %v", one, two, both, err, want, why)
		}
	}
}

func TestP26_10_WhatAssembleAnswersIsNew(t *testing.T) {
	const text = "bytes abc"
	one, _ := tap.Assemble(text)
	two, _ := tap.Assemble(text)
	specimens.Spoil(one)
	if !bytes.Equal(two, []byte("abc")) {
		t.Errorf("one answer is another's: %q", two)
	}
}

func TestP1_GreatTextsAreAssembledToo(t *testing.T) {
	b, err := tap.Assemble(strings.Repeat("\n#\nbytes a\n", 1<<17))
	if len(b) != 1<<17 || err != nil {
		t.Errorf("2^17 bytes in lines of their own: %d, %v", len(b), err)
	}
	b, err = tap.Assemble("bytes " + strings.Repeat("%00", 1<<20)) // no line is too long here
	if len(b) != 1<<20 || err != nil {
		t.Errorf("2^20 bytes in one line: %d, %v", len(b), err)
	}
}
