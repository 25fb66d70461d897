package pipe_test

import (
	"bytes"
	"slices"
	"testing"

	"culvert/api"
	"culvert/pipe"
	"culvert/sentinels"
)

// plain is what the chapter says that a Pipe has: the bytes under way, how many it has let go, whether it was cut; and, for P19.6, all that Puts took and Moves gave.
type plain struct {
	under  []byte
	passed uint64
	cut    bool
	taken  []byte
	given  []byte
}

func (p *plain) put(b []byte) (int, error) {
	if p.cut {
		return 0, api.ErrCut
	}
	p.under = append(p.under, b...)
	p.taken = append(p.taken, b...)
	return len(b), nil
}

func (p *plain) move(n int) []byte {
	n = max(0, min(n, len(p.under)))
	out := slices.Clone(p.under[:n])
	p.under = p.under[n:]
	p.passed += uint64(n)
	return out
}

func (p *plain) cutOff() int {
	lost := len(p.under)
	p.under, p.cut = nil, true
	return lost
}

// both is a Pipe beside a plain one.
type both struct {
	x *pipe.Pipe
	p plain
}

// made: a new Pipe, which must come about, with these pieces under way, beside a plain one.
func made(t *testing.T, pieces ...string) *both {
	t.Helper()
	b := &both{x: pipe.New()}
	if b.x == nil {
		t.Fatal("New: nil")
	}
	for _, piece := range pieces {
		b.put(t, piece)
	}
	b.tells(t)
	return b
}

// put: what is handed in is written over behind the call, and must not have been changed by it (R6).
func (b *both) put(t *testing.T, piece string) (int, error) {
	t.Helper()
	room := []byte("<" + piece + ">")
	in := room[1 : 1+len(piece)]
	want, wantErr := b.p.put([]byte(piece))
	n, err := b.x.Put(in)
	if n != want || !sentinels.Just(err, wantErr) {
		t.Fatalf("Put of %d bytes: %d, %v, want %d, %v", len(piece), n, err, want, wantErr)
	}
	if string(room) != "<"+piece+">" {
		t.Fatalf("Put has made %q of %q", room, "<"+piece+">")
	}
	clear(room)
	return n, err
}

func (b *both) move(t *testing.T, n int) []byte {
	t.Helper()
	want := b.p.move(n)
	got := b.x.Move(n)
	if !bytes.Equal(got, want) {
		t.Fatalf("Move(%d): %.40x (%d bytes), want %.40x (%d)", n, got, len(got), want, len(want))
	}
	b.p.given = append(b.p.given, got...)
	return got
}

func (b *both) cut(t *testing.T) int {
	t.Helper()
	want := b.p.cutOff()
	if n := b.x.Cut(); n != want {
		t.Fatalf("Cut: %d, want %d", n, want)
	}
	return want
}

// tells: every answer that changes nothing is the plain one's, and P19.6 holds.
func (b *both) tells(t *testing.T) {
	t.Helper()
	if b.x.Len() != len(b.p.under) || b.x.Passed() != b.p.passed || b.x.Broken() != b.p.cut {
		t.Fatalf("Len %d, Passed %d, Broken %v, want %d, %d, %v", b.x.Len(), b.x.Passed(), b.x.Broken(), len(b.p.under), b.p.passed, b.p.cut)
	}
	if !bytes.HasPrefix(b.p.taken, b.p.given) {
		t.Fatalf("Moves have given %d bytes that aren't the first of the %d that Puts took", len(b.p.given), len(b.p.taken))
	}
	if sum := b.x.Passed() + uint64(b.x.Len()); !b.x.Broken() && sum != uint64(len(b.p.taken)) {
		t.Fatalf("Passed and Len are %d, Puts took %d", sum, len(b.p.taken))
	}
}

// says: Len, Passed and Broken must be these, by the chapter's words and not by the plain one's alone.
func (b *both) says(t *testing.T, under int, passed uint64, cut bool) {
	t.Helper()
	b.tells(t)
	if b.x.Len() != under || b.x.Passed() != passed || b.x.Broken() != cut {
		t.Fatalf("Len %d, Passed %d, Broken %v, want %d, %d, %v", b.x.Len(), b.x.Passed(), b.x.Broken(), under, passed, cut)
	}
}

// moves: Move must answer this.
func (b *both) moves(t *testing.T, n int, want string) {
	t.Helper()
	if got := b.move(t, n); string(got) != want {
		t.Fatalf("Move(%d): %q, want %q", n, got, want)
	}
}

// cuttings: each way to cut the text into pieces, none of them empty, goes to use.
func cuttings(text string, use func(pieces []string)) {
	for ends := range 1 << max(0, len(text)-1) {
		var pieces []string
		begin := 0
		for i := range len(text) {
			if i == len(text)-1 || ends>>i&1 == 1 {
				pieces = append(pieces, text[begin:i+1])
				begin = i + 1
			}
		}
		use(pieces)
	}
}

// counted: so many bytes, of which those that stand near each other differ.
func counted(n int) string {
	b := make([]byte, n)
	for i := range b {
		b[i] = byte(i*7 + i>>8)
	}
	return string(b)
}
