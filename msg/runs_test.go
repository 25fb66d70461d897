package msg_test

import (
	"bytes"
	"fmt"
	"runtime"
	"slices"
	"strings"
	"testing"
	"weak"

	"culvert/api"
	"culvert/draws"
	"culvert/msg"
	"culvert/sentinels"
	"culvert/specimens"
)

// drawnMost: 0 and small ones, and those around which the bytes of a length change.
func drawnMost(d *draws.Draws) int {
	return []int{0, 1, 2, 3, 5, 40, 126, 127, 128, 129, 200, 300, 16383, 16384, 16385, 17000}[d.Below(16)]
}

// drawnFeed: bytes of messages that a reader with this most would read, of which perhaps some were written over, or have gone at the end, and perhaps others stand behind.
func drawnFeed(d *draws.Draws, most int) []byte {
	b := encoded(drawnMessages(d, most)...)
	if len(b) > 0 && d.Below(2) == 0 {
		b[d.Below(len(b))] = byte(d.Below(256))
	}
	if d.Below(3) == 0 {
		b = b[:d.Below(len(b)+1)]
	}
	if d.Below(3) == 0 {
		b = append(b, drawnBytes(d, d.Below(8))...)
	}
	return b
}

// readAll feeds the pieces to a new reader: the messages that it gave, and the error that it died of.
func readAll(t *testing.T, most int, pieces ...[]byte) (*msg.Reader, []string, error) {
	t.Helper()
	r := newReader(t, most)
	var all []string
	for _, piece := range pieces {
		got, err := r.Feed(piece)
		for _, m := range got {
			all = append(all, string(m))
		}
		if err != nil {
			return r, all, err
		}
	}
	return r, all, nil
}

func TestP27_2_EachCuttingOfShortBytes(t *testing.T) {
	for _, b := range []string{
		"", "\x00", "\x01a", "\x02ab\x00\x01c", "\x00\x00\x03abc\x00\x04de", "\x01a\x80\x00\x01b", "\x01\x80\xff\xff\x80\x00", "\x00\x80\x80\x01abc",
		"\x03\x00\x00\x00\x01\x01\x02", "\x05abcde\x01f", "\x05abcde\x06f", "\x81\x01abcdef", "\x81\x02abcdef", "\x02\x80\x80\x80\x80\x80",
	} {
		cuttings([]byte(b), func(pieces ...[]byte) {
			feedAll(t, 5, pieces...)
			feedAll(t, 129, pieces...)
		})
	}
}

// A length's end, a message's end, and the edges of both are cut wherever they can be.
func TestP27_2_EachCutOfLongBytes(t *testing.T) {
	b := encoded("", counted(126), counted(128), "x", "")
	for i := range len(b) + 1 {
		feedAll(t, 128, b[:i], b[i:])
		feedAll(t, 127, b[:i], b[i:])
	}
	feedAll(t, 128, singles(b)...)
	feedAll(t, 127, singles(b)...)
	b = encoded(counted(16384), "y", counted(16385), "z")
	for _, i := range []int{0, 1, 2, 3, 4, 16386, 16387, 16388, 16389, 16390, 16391, 16392, 16393, len(b) - 3, len(b) - 2, len(b) - 1, len(b)} {
		feedAll(t, 16384, b[:i], b[i:])
		feedAll(t, 16385, b[:i], b[i:])
	}
}

func TestP27_2_DrawnBytesInDrawnPieces(t *testing.T) {
	d := draws.Draws(27)
	for range 1500 {
		most := drawnMost(&d)
		b := drawnFeed(&d, most)
		feedAll(t, most, b)
		feedAll(t, most, drawnPieces(&d, b, 1+len(b)/4)...)
		if len(b) < 600 {
			feedAll(t, most, singles(b)...)
			feedAll(t, most, drawnPieces(&d, b, 3)...)
		}
	}
}

func TestP27_2_BytesThatAreNoMessages(t *testing.T) {
	d := draws.Draws(272)
	for range 5000 {
		b := []byte(drawnBytes(&d, d.Below(30)))
		most := drawnMost(&d)
		feedAll(t, most, b)
		feedAll(t, most, drawnPieces(&d, b, 5)...)
	}
}

func TestP27_3_MessagesComeBack(t *testing.T) {
	d := draws.Draws(273)
	for range 600 {
		most := drawnMost(&d)
		messages := drawnMessages(&d, most)
		var b []byte
		for _, m := range messages {
			one, err := msg.Encode([]byte(m), most)
			if err != nil {
				t.Fatalf("Encode of %d bytes, most %d: %v", len(m), most, err)
			}
			b = append(b, one...)
		}
		for _, size := range []int{1, 7, 1 + len(b)/3, 1 + len(b)} {
			r, got, err := readAll(t, most, drawnPieces(&d, b, size)...)
			if !slices.Equal(got, messages) || err != nil {
				t.Fatalf("most %d, in: %s, out: %s, %v", most, told(toBytes(messages)), told(toBytes(got)), err)
			}
			stands(t, r, reading{})
		}
	}
}

func TestP27_3_TheGreatestMessagesComeBack(t *testing.T) {
	messages := []string{counted(top), "", counted(top - 1), "a", counted(top)}
	d := draws.Draws(2733)
	for _, size := range []int{1000, 1 << 18, 1 << 30} {
		r, got, err := readAll(t, top, drawnPieces(&d, encoded(messages...), size)...)
		if !slices.Equal(got, messages) || err != nil {
			t.Fatalf("%s, %v", told(toBytes(got)), err)
		}
		stands(t, r, reading{})
	}
}

// isBeginning: the bytes of the messages that were given must be a beginning of what was fed, and what stands behind must be what is held, unless the reader is dead.
func isBeginning(t *testing.T, most int, pieces ...[]byte) {
	t.Helper()
	fed := bytes.Join(pieces, nil)
	r, got, err := readAll(t, most, pieces...)
	var given []byte
	for _, m := range got {
		one, err := msg.Encode([]byte(m), most)
		if err != nil {
			t.Fatalf("most %d, fed %x: a message of %d bytes: %v", most, fed, len(m), err)
		}
		given = append(given, one...)
	}
	held, ok := bytes.CutPrefix(fed, given)
	if !ok {
		t.Fatalf("most %d, fed %x, given %x", most, fed, given)
	}
	if err != nil {
		stands(t, r, reading{dead: true})
		return
	}
	stands(t, r, reading{held: len(held)})
	holds(t, r, most, held)
}

// holds: the reader must hold these bytes and no others: what it reads next is what a new one reads that was fed with them alone.
func holds(t *testing.T, r *msg.Reader, most int, held []byte) {
	t.Helper()
	other := newReader(t, most)
	other.Feed(held)
	rest := make([]byte, 128)
	got, err := r.Feed(rest)
	want, why := other.Feed(rest)
	if !slices.EqualFunc(got, want, bytes.Equal) || !sentinels.Just(err, why) || r.Held() != other.Held() {
		t.Fatalf("most %d, held %x, and then zeros: %s, %v, want %s, %v", most, held, told(got), err, told(want), why)
	}
}

func TestP27_3_WhatWasGivenAndWhatIsHeldIsAllThatWasFed(t *testing.T) {
	for _, most := range []int{0, 1, 200} {
		for one := range 256 {
			isBeginning(t, most, []byte{byte(one)})
			for two := range 256 {
				isBeginning(t, most, []byte{byte(one), byte(two)})
			}
		}
	}
	d := draws.Draws(2732)
	for range 3000 {
		most := drawnMost(&d)
		b := drawnFeed(&d, most)
		isBeginning(t, most, b)
		isBeginning(t, most, drawnPieces(&d, b, 1+len(b)/2)...)
		isBeginning(t, most, []byte(drawnBytes(&d, d.Below(12))))
	}
}

// Unlike lists of bytes that hold messages alone say unlike messages: no list of up to five bytes out of these says what another says.
func TestP27_3_AMessageHasOneForm(t *testing.T) {
	said := map[string]string{}
	alphabet := []byte{0, 1, 2, 3, 0x7f, 0x80, 0x81, 0x83, 0xff}
	var all func(b []byte)
	all = func(b []byte) {
		if r, got, err := readAll(t, top, b); err == nil && r.Held() == 0 {
			key := fmt.Sprintf("%q", got)
			if other, ok := said[key]; ok {
				t.Fatalf("%x and %x both say %s", other, b, key)
			}
			said[key] = string(b)
		}
		if len(b) < 5 {
			for _, c := range alphabet {
				all(append(slices.Clone(b), c))
			}
		}
	}
	all(nil)
	if len(said) < 1000 {
		t.Errorf("%d lists of bytes that hold messages alone", len(said))
	}
}

func TestP27_4_HeldIsAtMostTwoAboveMost(t *testing.T) {
	for _, c := range []struct{ most, reach int }{
		{0, 2}, {1, 2}, {2, 2}, {3, 3}, {127, 127}, {128, 129}, {129, 130}, {16383, 16384}, {16384, 16386}, {16385, 16387}, {top - 1, top + 1}, {top, top + 2},
	} {
		reach := 0
		for _, b := range [][]byte{{0xff, 0xff}, encoded(counted(c.most)), encoded(counted(c.most), counted(c.most))} {
			r := newReader(t, c.most)
			for _, piece := range [][]byte{b[:len(b)-1], b[len(b)-1:]} {
				if _, err := r.Feed(piece); err != nil {
					t.Fatalf("most %d: %v", c.most, err)
				}
				reach = max(reach, r.Held())
			}
		}
		if reach != c.reach || reach > c.most+2 {
			t.Errorf("most %d: %d are held at most, want %d", c.most, reach, c.reach)
		}
	}
	d := draws.Draws(274)
	for range 2000 {
		most := drawnMost(&d)
		r := newReader(t, most)
		for _, piece := range drawnPieces(&d, drawnFeed(&d, most+d.Below(2)), 9) {
			if r.Feed(piece); r.Held() > most+2 || r.Held() < 0 {
				t.Fatalf("most %d: %d are held", most, r.Held())
			}
		}
	}
}

func TestP27_4_AGreaterMostGivesTheSameAndPerhapsMore(t *testing.T) {
	d := draws.Draws(275)
	more, same := 0, 0
	for range 3000 {
		less, great := drawnMost(&d), drawnMost(&d)
		less, great = min(less, great), max(less, great)
		b := drawnFeed(&d, great)
		_, few, _ := readAll(t, less, drawnPieces(&d, b, 1+len(b)/3)...)
		_, many, _ := readAll(t, great, drawnPieces(&d, b, 1+len(b)/3)...)
		if len(few) > len(many) || !slices.Equal(few, many[:len(few)]) {
			t.Fatalf("%x: %s with the most %d, %s with %d", b, told(toBytes(few)), less, told(toBytes(many)), great)
		}
		if len(many) > len(few) {
			more++
		} else {
			same++
		}
	}
	if more < 100 || same < 100 {
		t.Errorf("more messages %d times, the same %d times", more, same)
	}
}

func TestP27_5_EncodeNeitherChangesNorKeepsTheMessage(t *testing.T) {
	for _, n := range []int{0, 1, 5, 128, 300, 16384} {
		for _, spare := range []int{0, 1, 2, 3, 40} {
			m := make([]byte, n, n+spare)
			copy(m, counted(n))
			before := slices.Clone(m[:cap(m)])
			b, err := msg.Encode(m, n)
			if !bytes.Equal(m[:cap(m)], before) || err != nil {
				t.Fatalf("Encode of %d bytes with %d to spare: they are changed, or %v", n, spare, err)
			}
			specimens.Spoil(m)
			if string(b) != plainEncode(counted(n)) {
				t.Errorf("Encode of %d bytes with %d to spare: it shares them", n, spare)
			}
			copy(m[:cap(m)], before)
			specimens.Spoil(b)
			if !bytes.Equal(m[:cap(m)], before) {
				t.Errorf("Encode of %d bytes with %d to spare: what it answers shares them", n, spare)
			}
			if again, err := msg.Encode(m, n); string(again) != plainEncode(counted(n)) || err != nil {
				t.Errorf("Encode of %d bytes, again: %s, %v", n, short(string(again)), err)
			}
		}
	}
}

func TestP27_5_WhatIsFedStaysAndIsNotKept(t *testing.T) {
	in := []string{"abcdef", "", counted(130), "g", "hi"}
	all := encoded(in...)
	for size := 1; size <= len(all); size++ {
		r := newReader(t, 130)
		var got []string
		for piece := range slices.Chunk(all, size) {
			b := make([]byte, len(piece), len(piece)+40) // with spare room, which isn't the reader's to write
			copy(b, piece)
			before := slices.Clone(b[:cap(b)])
			whole, err := r.Feed(b)
			if err != nil || !bytes.Equal(b[:cap(b)], before) {
				t.Fatalf("pieces of %d: %x was made %x, %v", size, before, b[:cap(b)], err)
			}
			specimens.Spoil(b)
			for _, m := range whole {
				got = append(got, string(m))
			}
		}
		if !slices.Equal(got, in) {
			t.Errorf("pieces of %d, written over when they were fed: %s", size, told(toBytes(got)))
		}
	}
}

func TestP27_5_EachMessageIsMemoryOfItsOwn(t *testing.T) {
	in := []string{"abcdef", "gh", counted(130), "i", "jklm"}
	all := encoded(in...)
	for at := range len(all) + 1 { // cut everywhere, so that what is held is the beginning of each of them
		r := newReader(t, 130)
		b := slices.Clone(all)
		first, _ := r.Feed(b[:at])
		if !are(first, in[:len(first)]...) {
			t.Fatalf("cut at %d: %s", at, told(first))
		}
		for i := range first {
			specimens.Spoil(first[i])
			if !are(first[i+1:], in[i+1:len(first)]...) {
				t.Errorf("cut at %d: with message %d those behind it were written over: %s", at, i, told(first))
			}
		}
		n := len(first)
		clear(first[:cap(first)])
		second, _ := r.Feed(b[at:])
		if !are(second, in[n:]...) {
			t.Fatalf("cut at %d: %s, behind %d messages that were written over", at, told(second), n)
		}
		for i := len(second) - 1; i >= 0; i-- {
			specimens.Spoil(second[i])
			if !are(second[:i], in[n:n+i]...) {
				t.Errorf("cut at %d: with message %d those ahead of it were written over: %s", at, i, told(second))
			}
		}
		if !bytes.Equal(b, all) {
			t.Errorf("cut at %d: the bytes that were handed in were written over", at)
		}
	}
}

// What was answered stays as it is while the reader goes on, and when it dies.
func TestP27_5_AnAnswerStays(t *testing.T) {
	r := newReader(t, 300)
	want := []string{"abc", counted(300), "", "d"}
	b := encoded(want...)
	got, _ := r.Feed(b[:200])
	more, _ := r.Feed(append(b[200:], 2, 'e'))
	got = append(got, more...)
	r.Feed([]byte("f\x05ghijk\x02l"))
	r.Feed([]byte(strings.Repeat("\x03xyz", 100)))
	dies(t, r, "\xff\xff\xff")
	if !are(got, want...) {
		t.Errorf("%s", told(got))
	}
}

// fedAway feeds new memory of many bytes; what remains of it is a weak pointer, and those to the messages.
func fedAway(r *msg.Reader, b []byte) []weak.Pointer[byte] {
	piece := slices.Clone(b)
	left := []weak.Pointer[byte]{weak.Make(&piece[0])}
	whole, _ := r.Feed(piece)
	for _, m := range whole {
		left = append(left, weak.Make(&m[0]))
	}
	return left
}

func TestP27_5_NeitherPiecesNorMessagesAreKeptAlive(t *testing.T) {
	long := counted(200)
	for _, tail := range []string{"", "\xff", "\xc8\x01", "\xc8\x01" + long[:150], "\xc9\x01"} {
		r := newReader(t, 200)
		left := fedAway(r, append(encoded(long, long), tail...))
		runtime.GC()
		for i, p := range left {
			if p.Value() != nil {
				t.Errorf("%d bytes behind two messages: %d of what was fed and answered is kept", len(tail), i)
			}
		}
		if len(left) != 3 {
			t.Errorf("%d messages, want 2", len(left)-1)
		}
		runtime.KeepAlive(r)
	}
}

// A length alone lays out no room for the message that it promises: many readers that were told of the greatest one are cheap.
func TestP27_4_ALengthAloneTakesNoRoom(t *testing.T) {
	const many = 100
	var before, after runtime.MemStats
	readers := make([]*msg.Reader, many)
	runtime.ReadMemStats(&before)
	for i := range readers {
		readers[i] = newReader(t, top)
		gives(t, readers[i], "\x80\x80\x40z", 4)
	}
	runtime.ReadMemStats(&after)
	if got := after.TotalAlloc - before.TotalAlloc; got > many*top/4 {
		t.Errorf("%d bytes for %d lengths", got, many)
	}
	for _, r := range readers {
		if got, err := r.Feed(nil); len(got) != 0 || !sentinels.Just(err, nil) || !sentinels.Just(r.Done(), api.ErrShort) {
			t.Errorf("%s, %v", told(got), err)
		}
	}
}
