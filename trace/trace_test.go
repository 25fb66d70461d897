package trace_test

import (
	"bytes"
	"math"
	"slices"
	"strconv"
	"strings"
	"testing"

	"culvert/api"
	"culvert/sentinels"
	"culvert/specimens"
	"culvert/trace"
)

// fails: the call must have ended with just this error, or with none.
func fails(t *testing.T, call string, err, want error) {
	t.Helper()
	if !sentinels.Just(err, want) {
		t.Errorf("%s: %v, want %v", call, err, want)
	}
}

// The chapter's examples, in their order.
func TestP24_1_Examples(t *testing.T) {
	h := trace.New()
	fails(t, "Wrote(7, abc)", h.Wrote(7, []byte("abc")), nil)
	fails(t, "Gave(7, ab)", h.Gave(7, []byte("ab")), nil)
	fails(t, "Gave(7, d)", h.Gave(7, []byte("d")), api.ErrHistory)
	if got := string(h.Rest(7)); got != "c" {
		t.Errorf("Rest(7): %q", got)
	}
	fails(t, "Ended(7), open", h.Ended(7), api.ErrHistory)
	fails(t, "Closed(7)", h.Closed(7), nil)
	fails(t, "Wrote(7, none)", h.Wrote(7, []byte("")), api.ErrClosed)
	fails(t, "Ended(7), with a rest", h.Ended(7), api.ErrHistory)
	fails(t, "Gave(7, c)", h.Gave(7, []byte("c")), nil)
	fails(t, "Ended(7)", h.Ended(7), nil)
	if past, ok := h.Past(7); past != (api.Past{Written: 3, Read: 3, Closed: true, Ended: true}) || !ok {
		t.Errorf("Past(7): %v, %v", past, ok)
	}
	fails(t, "Gave(-2, none)", h.Gave(-2, []byte("")), nil)
	fails(t, "Closed(7) again", h.Closed(7), api.ErrClosed)
	if got := h.Keys(); !slices.Equal(got, []int{-2, 7}) {
		t.Errorf("Keys: %v", got)
	}
	if got := h.Text(); got != "-2 written 0 read 0\n7 written 3 read 3 closed ended\n" {
		t.Errorf("Text: %q", got)
	}
}

func TestP24_1_NewKnowsNoKey(t *testing.T) {
	b := made(t)
	for range 2 {
		b.says(t)
		b.tells(t, manyKeys...)
	}
	b.wrote(t, 1, "a")
	if other := trace.New(); other == b.x || other.Text() != "" {
		t.Errorf("a second one: %q", other.Text())
	}
}

// moment is what has been made of a key, and what each call must then answer.
type moment struct {
	what                        string
	calls                       func(h *trace.History)
	rest                        string
	wrote, closed, gives, ended error // gives: Gave of a byte that isn't the rest's first one
	line                        string
}

const open, shut = 0, 1

// moments: each that a key can be in, as far as the calls tell them apart.
func moments() []moment {
	write := func(how int, b, read string) func(h *trace.History) {
		return func(h *trace.History) {
			h.Wrote(5, []byte(b))
			h.Gave(5, []byte(read))
			if how == shut {
				h.Closed(5)
			}
		}
	}
	end := func(b string) func(h *trace.History) {
		return func(h *trace.History) {
			write(shut, b, b)(h)
			h.Ended(5)
		}
	}
	no, cl, hi := error(nil), api.ErrClosed, api.ErrHistory
	return []moment{
		{"not known", func(*trace.History) {}, "", no, no, hi, hi, ""},
		{"known by Wrote of nothing", func(h *trace.History) { h.Wrote(5, nil) }, "", no, no, hi, hi, "5 written 0 read 0"},
		{"known by Gave of nothing", func(h *trace.History) { h.Gave(5, nil) }, "", no, no, hi, hi, "5 written 0 read 0"},
		{"known by Closed", func(h *trace.History) { h.Closed(5) }, "", cl, cl, hi, no, "5 written 0 read 0 closed"},
		{"written", write(open, "abc", ""), "abc", no, no, hi, hi, "5 written 3 read 0"},
		{"read in part", write(open, "abc", "ab"), "c", no, no, hi, hi, "5 written 3 read 2"},
		{"all read", write(open, "abc", "abc"), "", no, no, hi, hi, "5 written 3 read 3"},
		{"closed", write(shut, "abc", ""), "abc", cl, cl, hi, hi, "5 written 3 read 0 closed"},
		{"closed and read in part", write(shut, "abc", "ab"), "c", cl, cl, hi, hi, "5 written 3 read 2 closed"},
		{"closed and all read", write(shut, "abc", "abc"), "", cl, cl, hi, no, "5 written 3 read 3 closed"},
		{"ended", end("abc"), "", cl, cl, hi, no, "5 written 3 read 3 closed ended"},
		{"ended without a byte", end(""), "", cl, cl, hi, no, "5 written 0 read 0 closed ended"},
	}
}

// Each call at each moment, and how often ever it is made again.
func TestP24_1_EachCallAtEachMoment(t *testing.T) {
	for _, m := range moments() {
		for _, c := range []struct {
			name string
			call func(h *trace.History) error
			want error
		}{
			{"Wrote of nothing", func(h *trace.History) error { return h.Wrote(5, nil) }, m.wrote},
			{"Wrote of an empty list", func(h *trace.History) error { return h.Wrote(5, []byte{}) }, m.wrote},
			{"Wrote of bytes", func(h *trace.History) error { return h.Wrote(5, []byte("xy")) }, m.wrote},
			{"Closed", func(h *trace.History) error { return h.Closed(5) }, m.closed},
			{"Gave of nothing", func(h *trace.History) error { return h.Gave(5, nil) }, nil},
			{"Gave of an empty list", func(h *trace.History) error { return h.Gave(5, []byte{}) }, nil},
			{"Gave of the rest", func(h *trace.History) error { return h.Gave(5, []byte(m.rest)) }, nil},
			{"Gave of the rest and more", func(h *trace.History) error { return h.Gave(5, []byte(m.rest+"a")) }, api.ErrHistory},
			{"Gave of another byte", func(h *trace.History) error { return h.Gave(5, []byte("z")) }, m.gives},
			{"Ended", func(h *trace.History) error { return h.Ended(5) }, m.ended},
		} {
			h := trace.New()
			m.calls(h)
			before := h.Text()
			if want := line(m.line); before != want || string(h.Rest(5)) != m.rest {
				t.Fatalf("%s: %q with the rest %q", m.what, before, h.Rest(5))
			}
			err := c.call(h)
			fails(t, m.what+", "+c.name, err, c.want)
			if err != nil && (h.Text() != before || string(h.Rest(5)) != m.rest) {
				t.Errorf("%s, %s: refused, and then %q with the rest %q", m.what, c.name, h.Text(), h.Rest(5))
			}
			if _, known := h.Past(5); known != (err == nil || m.line != "") {
				t.Errorf("%s, %s: then the key is known: %v", m.what, c.name, known)
			}
		}
	}
}

// line: with its end; of no words there is no line.
func line(words string) string {
	if words == "" {
		return ""
	}
	return words + "\n"
}

// A key is known from the first call on that is accepted, and by no other.
func TestP24_1_WhatMakesAKeyKnown(t *testing.T) {
	for _, key := range manyKeys {
		b := made(t)
		for range 3 {
			b.gave(t, key, "a")
			b.gave(t, key, "\x00")
			b.ended(t, key)
			b.x.Past(key)
			b.x.Rest(key)
			b.says(t)
		}
		name := strconv.Itoa(key)
		b.gave(t, key, "")
		b.says(t, name+" written 0 read 0")
		for _, c := range []struct {
			call func(b *both) error
			line string
		}{
			{func(b *both) error { return b.wrote(t, key, "") }, " written 0 read 0"},
			{func(b *both) error { return b.wrote(t, key, "ab") }, " written 2 read 0"},
			{func(b *both) error { return b.closed(t, key) }, " written 0 read 0 closed"},
			{func(b *both) error { return b.gave(t, key, "") }, " written 0 read 0"},
		} {
			b := made(t)
			if err := c.call(b); err != nil {
				t.Fatalf("the first call for %d: %v", key, err)
			}
			b.says(t, name+c.line)
			b.tells(t, key)
		}
	}
}

// words: each text of up to n of these bytes.
func words(n int, from string) []string {
	all := []string{""}
	begin := 0
	for range n {
		end := len(all)
		for _, word := range all[begin:end] {
			for i := range len(from) {
				all = append(all, word+from[i:i+1])
			}
		}
		begin = end
	}
	return all
}

// Each text is given where each was written and each beginning of it was read: it is taken just if the rest begins with it.
func TestP24_1_GaveTakesTheBeginningsOfTheRest(t *testing.T) {
	all := words(4, "ab")
	for _, written := range all {
		for read := range len(written) + 1 {
			for _, given := range append(all, written+"c", "c", written+written) {
				b := made(t)
				b.wrote(t, 3, written)
				b.gave(t, 3, written[:read])
				err := b.gave(t, 3, given)
				if (err == nil) != strings.HasPrefix(written[read:], given) {
					t.Fatalf("%q written, %d read, %q given: %v", written, read, given, err)
				}
				b.tells(t)
			}
		}
	}
}

// One byte that is another one, at each place of a long list; the last bit of it is enough.
func TestP24_1_EachByteIsHeldAgainstTheOther(t *testing.T) {
	all := counted(600)
	for at := range len(all) {
		b := made(t)
		b.wrote(t, 1, "xyz"+all)
		b.gave(t, 1, "xyz")
		for _, bit := range []byte{1, 0x80} {
			wrong := []byte(all)
			wrong[at] ^= bit
			if b.gave(t, 1, string(wrong)) == nil || b.gave(t, 1, string(wrong[:at+1])) == nil {
				t.Fatalf("a wrong byte at %d is taken", at)
			}
		}
		if b.gave(t, 1, all+"\x00") == nil {
			t.Fatal("a byte too many is taken")
		}
		if b.gave(t, 1, all[:at]) != nil || b.gave(t, 1, all[at:]) != nil {
			t.Fatalf("the right bytes are refused in two pieces, cut at %d", at)
		}
		b.says(t, "1 written 603 read 603")
	}
}

func TestP24_1_BytesAreToldApart(t *testing.T) {
	for v := range 256 {
		b := made(t)
		b.wrote(t, 1, string([]byte{byte(v)}))
		for other := range 256 {
			if other == v {
				continue
			}
			if b.gave(t, 1, string([]byte{byte(other)})) == nil {
				t.Fatalf("%d is taken for %d", other, v)
			}
		}
		b.says(t, "1 written 1 read 0")
		if b.gave(t, 1, string([]byte{byte(v)})) != nil {
			t.Fatalf("%d is refused", v)
		}
		b.says(t, "1 written 1 read 1")
	}
}

// What was read is read once: it can't be given again, nor can what is written later be given ahead of it.
func TestP24_1_BytesAreGivenOnceAndInTheirOrder(t *testing.T) {
	b := made(t)
	b.wrote(t, 1, "ab")
	b.gave(t, 1, "a")
	fails(t, "a again", b.gave(t, 1, "a"), api.ErrHistory)
	b.wrote(t, 1, "cd")
	fails(t, "c ahead of b", b.gave(t, 1, "c"), api.ErrHistory)
	fails(t, "b", b.gave(t, 1, "b"), nil)
	fails(t, "ab again", b.gave(t, 1, "ab"), api.ErrHistory)
	fails(t, "d ahead of c", b.gave(t, 1, "d"), api.ErrHistory)
	fails(t, "cd", b.gave(t, 1, "cd"), nil)
	fails(t, "d again", b.gave(t, 1, "d"), api.ErrHistory)
	b.says(t, "1 written 4 read 4")
}

// Any int is a key, and none stands for another.
func TestP24_1_KeysAreToldApart(t *testing.T) {
	whole := made(t)
	for i, key := range manyKeys {
		whole.wrote(t, key, counted(i))
		alone := made(t)
		alone.wrote(t, key, "abc")
		alone.gave(t, key, "a")
		alone.tells(t, manyKeys...)
		for _, other := range manyKeys {
			if past, ok := alone.x.Past(other); ok != (other == key) || ok != (past.Written == 3) {
				t.Fatalf("Past(%d) where %d is known: %v, %v", other, key, past, ok)
			}
			if other != key && (alone.gave(t, other, "b") == nil || alone.ended(t, other) == nil) {
				t.Fatalf("%d is taken for %d", other, key)
			}
		}
	}
	whole.tells(t, manyKeys...)
	if got := whole.x.Keys(); !slices.Equal(got, manyKeys) {
		t.Errorf("Keys: %v", got)
	}
}

// However the keys came, they are told rising: as numbers, not as words.
func TestP24_1_KeysAndLinesAreToldRising(t *testing.T) {
	keys := []int{-10, -9, 2, 10, 100}
	orders(len(keys), func(order []int) {
		b := made(t)
		for _, i := range order {
			b.wrote(t, keys[i], counted(i))
		}
		b.says(t, "-10 written 0 read 0", "-9 written 1 read 0", "2 written 2 read 0", "10 written 3 read 0", "100 written 4 read 0")
		if got := b.x.Keys(); !slices.Equal(got, keys) {
			t.Fatalf("Keys: %v", got)
		}
	})
}

// The text at each choice of how much is written and read of two keys, closed or not, ended or not.
func TestP24_1_TextInEachForm(t *testing.T) {
	for _, written := range []int{0, 1, 9, 10, 123, 4567, 100_000} {
		for _, read := range []int{0, 1, 9, 10, 99, 100, 4567, 100_000} {
			if read > written {
				continue
			}
			begin := " written " + strconv.Itoa(written) + " read " + strconv.Itoa(read)
			b := made(t)
			for _, key := range []int{math.MaxInt, math.MinInt} {
				b.wrote(t, key, counted(written))
				b.gave(t, key, counted(read))
			}
			b.says(t, "-9223372036854775808"+begin, "9223372036854775807"+begin)
			b.closed(t, math.MinInt)
			b.says(t, "-9223372036854775808"+begin+" closed", "9223372036854775807"+begin)
			if b.ended(t, math.MinInt); read == written {
				b.says(t, "-9223372036854775808"+begin+" closed ended", "9223372036854775807"+begin)
			} else {
				b.says(t, "-9223372036854775808"+begin+" closed", "9223372036854775807"+begin)
			}
		}
	}
}

// The end may be told several times, and bytes that are none may be given behind it.
func TestP24_2_AnEndedKeyStaysAsItIs(t *testing.T) {
	for _, written := range []string{"", "a", "abc"} {
		b := made(t)
		b.wrote(t, 4, written)
		b.closed(t, 4)
		b.gave(t, 4, written)
		want := "4 written " + strconv.Itoa(len(written)) + " read " + strconv.Itoa(len(written)) + " closed"
		b.says(t, want)
		for range 3 {
			fails(t, "Ended", b.ended(t, 4), nil)
			b.says(t, want+" ended")
			fails(t, "Gave of nothing", b.gave(t, 4, ""), nil)
			fails(t, "Gave", b.gave(t, 4, "a"), api.ErrHistory)
			fails(t, "Wrote of nothing", b.wrote(t, 4, ""), api.ErrClosed)
			fails(t, "Wrote", b.wrote(t, 4, "d"), api.ErrClosed)
			fails(t, "Closed", b.closed(t, 4), api.ErrClosed)
			b.says(t, want+" ended")
		}
	}
}

// The other key's bytes, close and end are its own.
func TestP24_2_OneKeyChangesNothingOfAnother(t *testing.T) {
	for _, pair := range [][2]int{{1, -1}, {0, 1}, {3, 3 + 1<<32}, {math.MinInt, math.MaxInt}, {5, ^5}} {
		b := made(t)
		b.wrote(t, pair[0], "abc")
		b.wrote(t, pair[1], "xyz")
		fails(t, "the other's byte", b.gave(t, pair[0], "x"), api.ErrHistory)
		b.gave(t, pair[0], "abc")
		b.closed(t, pair[0])
		fails(t, "Ended of the other", b.ended(t, pair[1]), api.ErrHistory)
		fails(t, "Wrote of the other", b.wrote(t, pair[1], "u"), nil)
		fails(t, "Ended", b.ended(t, pair[0]), nil)
		fails(t, "Closed of the other", b.closed(t, pair[1]), nil)
		fails(t, "Ended of the other", b.ended(t, pair[1]), api.ErrHistory)
		fails(t, "the other's rest", b.gave(t, pair[1], "xyzu"), nil)
		if past, ok := b.x.Past(pair[1]); past != (api.Past{Written: 4, Read: 4, Closed: true}) || !ok {
			t.Fatalf("Past(%d): %v, %v", pair[1], past, ok)
		}
		b.tells(t)
	}
}

// The pieces in which bytes are written and given are told by no answer.
func TestP24_3_ThePiecesDoNotMatter(t *testing.T) {
	const all = "abcabca"
	cuttings(all, func(in []string) {
		cuttings(all, func(out []string) {
			b := made(t)
			for _, piece := range in {
				b.wrote(t, 2, piece)
			}
			read := 0
			for _, piece := range out {
				if b.gave(t, 2, piece) != nil {
					t.Fatalf("written as %q, given as %q: %q is refused", in, out, piece)
				}
				read += len(piece)
				if got := string(b.x.Rest(2)); got != all[read:] {
					t.Fatalf("Rest behind %d: %q", read, got)
				}
			}
			b.says(t, "2 written 7 read 7")
		})
	})
}

// The same, but bytes are given as soon as they are there, with calls of no bytes between all others.
func TestP24_3_GivenAmongTheWrites(t *testing.T) {
	const all = "abcabca"
	cuttings(all, func(in []string) {
		cuttings(all, func(out []string) {
			b := made(t)
			left := out
			for _, piece := range in {
				b.wrote(t, 2, piece)
				b.wrote(t, 2, "")
				for len(left) > 0 && len(left[0]) <= len(b.x.Rest(2)) {
					if b.gave(t, 2, left[0]) != nil || b.gave(t, 2, "") != nil {
						t.Fatalf("written as %q, given as %q: %q is refused", in, out, left[0])
					}
					left = left[1:]
				}
				b.isOf(t, 2)
			}
			b.says(t, "2 written 7 read 7")
		})
	})
}

func TestP24_4_WhatIsHandedInStaysAndIsNotKept(t *testing.T) {
	for read := range 6 {
		room := []byte("ahead of it, abc, and behind it")
		before := slices.Clone(room)
		h := trace.New()
		fails(t, "Wrote", h.Wrote(1, room[13:16]), nil)
		fails(t, "Wrote", h.Wrote(1, room[13:15]), nil)
		fails(t, "Gave", h.Gave(1, room[:5]), api.ErrHistory)
		given := slices.Grow([]byte("abcab"[:read]), 100)
		fails(t, "Gave", h.Gave(1, given), nil)
		if !bytes.Equal(room, before) || string(given) != "abcab"[:read] || slices.Max(given[read:cap(given)]) != 0 {
			t.Fatalf("what was handed in was made %q and %q", room, given)
		}
		specimens.Spoil(room)
		specimens.Spoil(given)
		if got := string(h.Rest(1)); got != "abcab"[read:] {
			t.Fatalf("Rest: %q behind writing over what was handed in", got)
		}
		fails(t, "Gave of the rest", h.Gave(1, []byte("abcab"[read:])), nil)
	}
}

// Each answer is written over, spare room too: neither another answer nor the history changes by that.
func TestP24_4_ListsAreNewMemory(t *testing.T) {
	b := made(t)
	for n := range 60 {
		one, two, keys, again := b.x.Rest(7), b.x.Rest(7), b.x.Keys(), b.x.Keys()
		specimens.Spoil(one)
		spoil(keys)
		if want, _ := b.p.find(7); string(two) != want.rest() || !slices.Equal(again, b.p.keys()) {
			t.Fatalf("an answer shares memory with another: %q, %v", two, again)
		}
		b.tells(t)
		specimens.Spoil(two)
		spoil(again)
		b.wrote(t, 7, counted(n))
		b.wrote(t, -n, "a")
		if rest := string(b.x.Rest(7)); n%3 == 2 {
			b.gave(t, 7, rest[:len(rest)-n/2])
		}
		b.tells(t)
	}
}

// What was answered stays as it was, whatever becomes of the history.
func TestP24_4_AnAnswerStays(t *testing.T) {
	for read := range 7 {
		b := made(t)
		b.wrote(t, 7, "abcdef")
		b.gave(t, 7, "abcdef"[:read])
		rest, keys := b.x.Rest(7), b.x.Keys()
		for n := range 40 {
			b.wrote(t, 7, "XYZUVW")
			b.gave(t, 7, string(b.x.Rest(7))[:3])
			b.closed(t, -1-n)
			b.x.Rest(7)
		}
		if string(rest) != "abcdef"[read:] || !slices.Equal(keys, []int{7}) {
			t.Errorf("the answers have become %q, %v", rest, keys)
		}
	}
}

// spoil writes over all of a list, its spare room too.
func spoil(list []int) {
	list = list[:cap(list)]
	for i := range list {
		list[i] = 99
	}
}

// A Gave that is refused has read nothing, however many of its bytes were right.
func TestR4_ACallThatFailsChangesNothing(t *testing.T) {
	for read := range 4 {
		for right := range 4 - read {
			b := made(t)
			b.wrote(t, 7, "abc")
			b.gave(t, 7, "abc"[:read])
			begin := "abc"[read : read+right]
			for range 3 {
				fails(t, "Gave", b.gave(t, 7, begin+"x"), api.ErrHistory)
				fails(t, "Ended", b.ended(t, 7), api.ErrHistory)
				b.says(t, "7 written 3 read "+strconv.Itoa(read))
			}
			b.closed(t, 7)
			for range 3 {
				fails(t, "Wrote", b.wrote(t, 7, "d"), api.ErrClosed)
				fails(t, "Closed", b.closed(t, 7), api.ErrClosed)
				fails(t, "Gave", b.gave(t, 7, begin+"x"), api.ErrHistory)
				b.says(t, "7 written 3 read "+strconv.Itoa(read)+" closed")
			}
			fails(t, "Gave of the rest", b.gave(t, 7, "abc"[read:]), nil)
			fails(t, "Ended", b.ended(t, 7), nil)
		}
	}
}

func TestR7_ANilHistoryIsAnEmptyOne(t *testing.T) {
	var h *trace.History
	for range 2 {
		for _, key := range manyKeys {
			for _, b := range [][]byte{nil, {}, []byte("ab")} {
				fails(t, "Wrote", h.Wrote(key, b), api.ErrNil)
				fails(t, "Gave", h.Gave(key, b), api.ErrNil)
			}
			fails(t, "Closed", h.Closed(key), api.ErrNil)
			fails(t, "Ended", h.Ended(key), api.ErrNil)
			if past, ok := h.Past(key); past != (api.Past{}) || ok || len(h.Rest(key)) != 0 {
				t.Errorf("Past(%d): %v, %v, Rest %q", key, past, ok, h.Rest(key))
			}
		}
		if len(h.Keys()) != 0 || h.Text() != "" {
			t.Errorf("Keys: %v, Text: %q", h.Keys(), h.Text())
		}
	}
}
