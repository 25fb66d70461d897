package tap_test

import (
	"fmt"
	"math/big"
	"regexp"
	"slices"
	"strings"
	"testing"

	"culvert/api"
	"culvert/draws"
	"culvert/frame"
	"culvert/script"
	"culvert/specimens"
	"culvert/tap"
)

// shape is the line of a frame, with every number still to be judged.
var shape = regexp.MustCompile(`^(data|window|ping|away|type (0|[1-9][0-9]*))( version ([1-9][0-9]*))?( syn)?( ack)?( fin)?( rst)?( flags ([1-9][0-9]*))? stream (0|[1-9][0-9]*) length (0|[1-9][0-9]*)( ((?s:.*)))?$`)

// aWord is one as chapter 25 has them.
var aWord = regexp.MustCompile(`[^ \t\r]+`)

// upTo: the number that the digits write, if it is none above most; of no digits 0.
func upTo(digits string, most int64) (int64, bool) {
	n, ok := new(big.Int).SetString("0"+digits, 10)
	return n.Int64(), ok && n.Cmp(big.NewInt(most)) <= 0
}

// plainParse reads a line as the chapter says it, by its shape.
func plainParse(line string) (api.Frame, error) {
	word := strings.SplitN(line, " ", 2)[0]
	if !slices.Contains([]string{"data", "window", "ping", "away", "type"}, word) {
		return api.Frame{}, api.ErrWord
	}
	m := shape.FindStringSubmatch(line)
	if m == nil || (word == "data") != (m[13] != "") {
		return api.Frame{}, api.ErrArgument
	}
	kind, okKind := upTo(m[2], 255)
	if word == "type" {
		okKind = okKind && kind > 3
	} else {
		kind = map[string]int64{"data": 0, "window": 1, "ping": 2, "away": 3}[word]
	}
	version, okVersion := upTo(m[4], 255)
	flags, okFlags := upTo(m[10], 65535)
	okFlags = okFlags && flags%16 == 0
	for i, flag := range m[5:9] {
		if flag != "" {
			flags += 1 << i
		}
	}
	stream, okStream := upTo(m[11], top)
	length, okLength := upTo(m[12], top)
	if !okKind || !okVersion || !okFlags || !okStream || !okLength {
		return api.Frame{}, api.ErrArgument
	}
	f := api.Frame{Head: api.Header{Version: uint8(version), Type: uint8(kind), Flags: uint16(flags), Stream: uint32(stream), Length: uint32(length)}}
	if word != "data" {
		return f, nil
	}
	var err error
	if f.Data, err = script.Read(m[14]); err != nil {
		return api.Frame{}, api.ErrArgument
	}
	if int64(len(f.Data)) != length {
		return api.Frame{}, api.ErrLength
	}
	return f, nil
}

// holdParse holds what Parse answers against the plain reading.
func holdParse(t *testing.T, line string) {
	t.Helper()
	want, why := plainParse(line)
	got, err := tap.Parse(line)
	if why == nil && !isFrame(got, err, want) {
		t.Fatalf("Parse(%q): %v, %v, want %v", line, got, err, want)
	}
	if why != nil && !isNoFrame(got, err, why) {
		t.Fatalf("Parse(%q): %v, %v, want %v", line, got, err, why)
	}
}

// plainAssemble makes the bytes of a text as the chapter says it, line by line.
func plainAssemble(text string) ([]byte, error) {
	var all []byte
	for _, line := range strings.Split(text, "\n") {
		words := aWord.FindAllString(line, -1)
		if len(words) == 0 || words[0][0] == '#' {
			continue
		}
		if strings.HasPrefix(line, "bytes ") {
			if b, err := script.Read(line[len("bytes "):]); err == nil {
				all = append(all, b...)
				continue
			}
		}
		f, err := plainParse(line)
		switch {
		case err == nil:
			all = append(all, specimens.Bytes(f)...)
		case words[0] == "bytes":
			return nil, api.ErrArgument
		default:
			return nil, err
		}
	}
	return all, nil
}

// heard is what a tap must have told of all its bytes.
type heard struct {
	text    string
	whole   int // how many bytes stand up to the end of the last whole frame
	frames  map[uint8]int
	payload map[uint8]int
	stream  uint32
	why     error // nil of a tap that isn't dead
}

// plainHear hears all bytes at once, without anything that is kept.
func plainHear(b []byte, most int) heard {
	h := heard{frames: map[uint8]int{}, payload: map[uint8]int{}}
	for len(b[h.whole:]) >= 12 {
		head, _ := frame.Decode(b[h.whole:])
		if why := frame.Check(head, most); why != nil {
			h.stream, h.why = head.Stream, why
			word := map[error]string{api.ErrVersion: "version", api.ErrType: "type", api.ErrFlags: "flags", api.ErrID: "id", api.ErrLength: "length"}[why]
			h.text += fmt.Sprintf("#broken %s stream %d\n", word, head.Stream)
			break
		}
		end := h.whole + 12 + frame.Size(head)
		if len(b) < end {
			break
		}
		h.text += frame.Text(head)
		if head.Type == data {
			h.text += " " + script.Told(b[h.whole+12:end])
		}
		h.text += "\n"
		h.frames[head.Type]++
		h.payload[head.Type] += end - h.whole - 12
		h.whole = end
	}
	return h
}

// number: of so many bits, and small ones about as often as great ones.
func number(d *draws.Draws, bits int) uint32 {
	return uint32(d.Below(1<<16)<<16|d.Below(1<<16)) >> (32 - bits + d.Below(bits+1))
}

// anyFrame: one that has a line, whether its header may be or not.
func anyFrame(d *draws.Draws) api.Frame {
	f := api.Frame{Head: api.Header{Version: uint8(number(d, 8)), Type: uint8(number(d, 8)), Flags: uint16(number(d, 16)), Stream: number(d, 32), Length: number(d, 32)}}
	if d.Below(3) == 0 {
		f.Head.Version = 0
	}
	if f.Head.Type == data {
		f.Data = payload(d, 20)
		f.Head.Length = uint32(len(f.Data))
	}
	return f
}

// payload: up to most bytes, of those around which texts change and of all others.
func payload(d *draws.Draws, most int) []byte {
	const odd = "\x00\t\n\r !#$%&09afAF~\x7f\x80\xff"
	b := make([]byte, d.Below(most+1))
	for i := range b {
		b[i] = byte(d.Below(256))
		if d.Below(2) == 0 {
			b[i] = odd[d.Below(len(odd))]
		}
	}
	return b
}

// drawnLine: a frame's line, perhaps with a word or a byte changed, gone or put in.
func drawnLine(d *draws.Draws) string {
	line, _ := tap.Line(anyFrame(d))
	for range d.Below(3) {
		line = spoiled(d, line)
	}
	return line
}

// spoiled: the line with one thing changed.
func spoiled(d *draws.Draws, line string) string {
	words := strings.Split(line, " ")
	i, j := d.Below(len(words)), d.Below(len(words))
	others := []string{"data", "window", "ping", "away", "type", "version", "syn", "ack", "fin", "rst", "flags", "stream", "length", "bytes", "%", "", "0", "1", "4", "16", "255", "65536", "4294967296", "\t", "#", "%0a", "ab"}
	switch d.Below(6) {
	case 0:
		return join(words[:i], words[i+1:])
	case 1:
		return join(words[:i], []string{others[d.Below(len(others))]}, words[i:])
	case 2:
		words[i] = others[d.Below(len(others))]
	case 3:
		words[i], words[j] = words[j], words[i]
	case 4:
		at := d.Below(len(line) + 1)
		return line[:at] + string(payload(d, 1)) + line[at:]
	case 5:
		b := []byte(line)
		if len(b) > 0 {
			b[d.Below(len(b))] = byte(d.Below(256))
		}
		return string(b)
	}
	return join(words)
}
