package msg_test

import (
	"encoding/binary"
	"slices"
	"testing"

	"culvert/api"
	"culvert/draws"
	"culvert/msg"
	"culvert/sentinels"
)

// top is the greatest most.
const top = api.MaxMessage

// reading is what bytes must have been read as.
type reading struct {
	whole []string
	held  int
	dead  bool
}

// plainEncode: the message's bytes.
func plainEncode(m string) string {
	return string(binary.AppendUvarint(nil, uint64(len(m)))) + m
}

// plainRead reads all bytes at once, without anything that is kept.
func plainRead(b []byte, most int) reading {
	var r reading
	for len(b) > 0 {
		size, n := binary.Uvarint(b[:min(len(b), 3)])
		switch {
		case n == 0 && len(b) < 3:
			r.held = len(b)
			return r
		case n == 0 || n != len(binary.AppendUvarint(nil, size)) || size > uint64(most):
			r.dead = true
			return r
		case len(b) < n+int(size):
			r.held = len(b)
			return r
		}
		r.whole = append(r.whole, string(b[n:n+int(size)]))
		b = b[n+int(size):]
	}
	return r
}

// newReader: a reader that must come about.
func newReader(t *testing.T, most int) *msg.Reader {
	t.Helper()
	r, err := msg.New(most)
	if r == nil || err != nil {
		t.Fatalf("New(%d): %v, %v", most, r, err)
	}
	return r
}

// are: are the messages these?
func are(got [][]byte, want ...string) bool {
	return slices.EqualFunc(got, want, func(m []byte, s string) bool { return string(m) == s })
}

// gives: the reader, which dies of nothing in it, must give these messages for the bytes, and then hold so many.
func gives(t *testing.T, r *msg.Reader, b string, held int, want ...string) {
	t.Helper()
	got, err := r.Feed([]byte(b))
	if !are(got, want...) || err != nil {
		t.Fatalf("Feed(%s): %s, %v, want %s", short(b), told(got), err, told(toBytes(want)))
	}
	stands(t, r, reading{held: held})
}

// dies: the reader must die of the bytes, with these messages ahead.
func dies(t *testing.T, r *msg.Reader, b string, want ...string) {
	t.Helper()
	got, err := r.Feed([]byte(b))
	if !are(got, want...) || !sentinels.Just(err, api.ErrLength) {
		t.Fatalf("Feed(%s): %s, %v, want %s and ErrLength", short(b), told(got), err, told(toBytes(want)))
	}
	stands(t, r, reading{dead: true})
}

// stands: how a reader must stand that has read this; asked twice, since asking changes nothing.
func stands(t *testing.T, r *msg.Reader, want reading) {
	t.Helper()
	var why error
	switch {
	case want.dead:
		why = api.ErrDead
	case want.held > 0:
		why = api.ErrShort
	}
	for range 2 {
		if err := r.Done(); r.Held() != want.held || !sentinels.Just(err, why) {
			t.Fatalf("held %d, Done: %v, want %d and %v", r.Held(), err, want.held, why)
		}
	}
}

// feedAll feeds the pieces, and holds all that the reader says behind each against what the bytes up to there are.
func feedAll(t *testing.T, most int, pieces ...[]byte) {
	t.Helper()
	r := newReader(t, most)
	var fed []byte
	var before reading
	for i, piece := range pieces {
		fed = append(fed, piece...)
		want := plainRead(fed, most)
		var why error
		switch {
		case before.dead:
			why = api.ErrDead
		case want.dead:
			why = api.ErrLength
		}
		got, err := r.Feed(piece)
		if more := want.whole[len(before.whole):]; !are(got, more...) || !sentinels.Just(err, why) {
			t.Fatalf("most %d, %x, piece %d: %s, %v, want %s, %v", most, pieces, i, told(got), err, told(toBytes(more)), why)
		}
		stands(t, r, want)
		before = want
	}
}

// singles: a piece for each byte.
func singles(b []byte) [][]byte { return slices.Collect(slices.Chunk(b, 1)) }

// cuttings: each way to cut the bytes into pieces goes to use, none of them empty.
func cuttings(b []byte, use func(pieces ...[]byte)) {
	for where := range 1 << max(0, len(b)-1) {
		var pieces [][]byte
		from := 0
		for i := 1; i < len(b); i++ {
			if where>>(i-1)&1 == 1 {
				pieces = append(pieces, b[from:i])
				from = i
			}
		}
		use(append(pieces, b[from:])...)
	}
}

// drawnPieces: b in pieces of 0 to most bytes.
func drawnPieces(d *draws.Draws, b []byte, most int) [][]byte {
	var pieces [][]byte
	for len(b) > 0 {
		n := min(d.Below(most+1), len(b))
		pieces = append(pieces, b[:n])
		b = b[n:]
	}
	return append(pieces, nil)
}

// drawnMessages: a few messages of at most so many bytes, of lengths around which the length's bytes change more often than of others.
func drawnMessages(d *draws.Draws, most int) []string {
	odd := []int{0, 1, 2, 127, 128, 129, 255, 256, 300, 16383, 16384, 16385, most - 1, most}
	var all []string
	for range d.Below(6) {
		n := d.Below(min(most, 40) + 1)
		if d.Below(2) == 0 {
			n = min(max(odd[d.Below(len(odd))], 0), most)
		}
		all = append(all, drawnBytes(d, n))
	}
	return all
}

// drawnBytes: so many, of those that end a length, or don't, in equal parts.
func drawnBytes(d *draws.Draws, n int) string {
	b := make([]byte, n)
	for i := range b {
		b[i] = byte(d.Below(256))
		if d.Below(3) == 0 {
			b[i] = []byte{0, 1, 2, 0x7f, 0x80, 0x81, 0xff}[d.Below(7)]
		}
	}
	return string(b)
}

// encoded: the messages' bytes, one behind the other.
func encoded(messages ...string) []byte {
	var all []byte
	for _, m := range messages {
		all = append(all, plainEncode(m)...)
	}
	return all
}

// counted: n bytes, of which those that follow one another differ, and which don't come round soon.
func counted(n int) string {
	b := make([]byte, n)
	for i := range b {
		b[i] = byte(i + i/256 + i/65536)
	}
	return string(b)
}

func toBytes(texts []string) [][]byte {
	var all [][]byte
	for _, s := range texts {
		all = append(all, []byte(s))
	}
	return all
}
