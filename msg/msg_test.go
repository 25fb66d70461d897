package msg_test

import (
	"math"
	"slices"
	"strings"
	"testing"

	"culvert/api"
	"culvert/msg"
	"culvert/sentinels"
)

// notMosts are those that may not be; some would be if they were cut to fewer bits.
var notMosts = []int{-1, -2, top + 1, top + 2, 1 << 21, math.MaxInt32, 1 << 32, 1<<32 + 5, -1 << 20, -1 << 32, math.MinInt, math.MinInt + 1, math.MaxInt}

// lengths are those around which the bytes that write them change, with these bytes as the chapter has them.
var lengths = []struct {
	n    int
	head string
}{
	{0, "\x00"}, {1, "\x01"}, {2, "\x02"}, {64, "\x40"}, {126, "\x7e"}, {127, "\x7f"},
	{128, "\x80\x01"}, {129, "\x81\x01"}, {200, "\xc8\x01"}, {255, "\xff\x01"}, {256, "\x80\x02"}, {300, "\xac\x02"}, {8192, "\x80\x40"}, {16382, "\xfe\x7f"}, {16383, "\xff\x7f"},
	{16384, "\x80\x80\x01"}, {16385, "\x81\x80\x01"}, {65536, "\x80\x80\x04"}, {1 << 19, "\x80\x80\x20"}, {top - 1, "\xff\xff\x3f"}, {top, "\x80\x80\x40"},
}

func TestP27_1_Encode(t *testing.T) {
	for _, c := range lengths {
		m := counted(c.n)
		for _, most := range []int{c.n, c.n + 1, top - 1, top} {
			if most < c.n || most > top {
				continue
			}
			if b, err := msg.Encode([]byte(m), most); string(b) != c.head+m || err != nil {
				t.Errorf("Encode of %d bytes, most %d: %s, %v, want %x ahead", c.n, most, short(string(b)), err, c.head)
			}
		}
	}
	for _, most := range []int{0, 1, 127, 128, top} {
		for _, m := range [][]byte{nil, {}, make([]byte, 0, 9)} {
			if b, err := msg.Encode(m, most); string(b) != "\x00" || err != nil {
				t.Errorf("Encode of nothing, most %d: %x, %v", most, b, err)
			}
		}
	}
	if b, err := msg.Encode([]byte("abc"), 3); string(b) != "\x03abc" || err != nil {
		t.Errorf("the chapter's example: %x, %v", b, err)
	}
}

func TestP27_1_EncodeOfEachSmallLength(t *testing.T) {
	m := counted(16600)
	for n := range len(m) + 1 {
		b, err := msg.Encode([]byte(m[:n]), len(m))
		if string(b) != plainEncode(m[:n]) || err != nil {
			t.Fatalf("Encode of %d bytes: %s, %v", n, short(string(b)), err)
		}
	}
}

func TestP27_1_EncodeRefuses(t *testing.T) {
	for _, n := range []int{0, 1, 3, 200, top, top + 1} {
		for _, most := range notMosts { // ErrRange is looked for ahead of ErrLength
			if b, err := msg.Encode(make([]byte, n), most); len(b) != 0 || !sentinels.Just(err, api.ErrRange) {
				t.Errorf("Encode of %d bytes, most %d: %s, %v, want ErrRange", n, most, short(string(b)), err)
			}
		}
	}
	for _, c := range [][2]int{{1, 0}, {3, 2}, {3, 0}, {128, 127}, {300, 299}, {16384, 16383}, {top, top - 1}, {top, 0}, {top + 1, top}, {2 * top, top}, {1<<21 + 1, top}, {1 << 24, 5}} {
		if b, err := msg.Encode(make([]byte, c[0]), c[1]); len(b) != 0 || !sentinels.Just(err, api.ErrLength) {
			t.Errorf("Encode of %d bytes, most %d: %s, %v, want ErrLength", c[0], c[1], short(string(b)), err)
		}
	}
}

func TestP27_1_New(t *testing.T) {
	for _, most := range []int{0, 1, 2, 127, 128, 65536, 65537, top - 1, top} {
		stands(t, newReader(t, most), reading{})
	}
	for _, most := range notMosts {
		if r, err := msg.New(most); r != nil || !sentinels.Just(err, api.ErrRange) {
			t.Errorf("New(%d): %v, %v, want ErrRange", most, r, err)
		}
	}
}

func TestP27_1_TheChaptersExamples(t *testing.T) {
	r := newReader(t, 200)
	long := counted(128)
	gives(t, r, "\x02a", 2)
	gives(t, r, "b\x00\x01", 1, "ab", "")
	gives(t, r, "z\x80", 1, "z")
	gives(t, r, "\x01", 2)
	gives(t, r, long, 0, long)
	dies(t, r, "\x01y\xc9\x01\x05", "y")
	if got, err := r.Feed([]byte{0}); len(got) != 0 || !sentinels.Just(err, api.ErrDead) {
		t.Errorf("fed when it is dead: %s, %v", told(got), err)
	}
	stands(t, r, reading{dead: true})

	dies(t, newReader(t, 200), "\x80\x00")
	dies(t, newReader(t, 200), "\xff\xff\x80")
	gives(t, newReader(t, 200), "\xff\xff", 2)
	gives(t, newReader(t, 0), "\x00\x00", 0, "", "")
	dies(t, newReader(t, 0), "\x01")
}

// A message of most bytes is read, one of a byte more is not: found at the last byte of its length, and no sooner.
func TestP27_1_MostIsWhatAMessageMayHave(t *testing.T) {
	for _, c := range lengths {
		m := counted(c.n)
		for _, most := range []int{c.n, c.n + 1, top} {
			if most <= top {
				gives(t, newReader(t, most), c.head+m, 0, m)
			}
		}
		if c.n == 0 {
			continue
		}
		r := newReader(t, c.n-1)
		for i := range len(c.head) - 1 {
			gives(t, r, c.head[i:i+1], i+1)
		}
		dies(t, r, c.head[len(c.head)-1:])
		dies(t, newReader(t, c.n-1), "\x00"+c.head+m+"\x00", "")
	}
	for _, head := range []string{"\x81\x80\x40", "\xff\xff\x40", "\x80\x80\x41", "\xff\xff\x7f"} { // above the greatest that there is
		dies(t, newReader(t, top), head)
		dies(t, newReader(t, 0), head)
	}
}

// Each way to end a length that may not be: at the very byte, whatever the most, and with nothing told of it sooner.
func TestP27_1_LengthsThatMayNotBe(t *testing.T) {
	for _, most := range []int{0, 1, 127, 128, 200, 16384, top} {
		for _, head := range []string{
			"\x80\x00", "\x81\x00", "\xff\x00", "\xc8\x00", // 0 in the last of two bytes
			"\x80\x80\x00", "\x81\x80\x00", "\x80\x81\x00", "\xff\xff\x00", // in the last of three
			"\x80\x80\x80", "\xff\xff\xff", "\x80\x80\xff", "\x81\x80\x81", "\xff\xff\x80", "\x80\x80\xc0", // a fourth would follow
		} {
			r := newReader(t, most)
			for i := range len(head) - 1 {
				gives(t, r, head[i:i+1], i+1)
			}
			dies(t, r, head[len(head)-1:])
			dies(t, newReader(t, most), "\x00"+head+"\x00\x00\x00", "")
		}
	}
}

func TestP27_1_EachLengthOfUpToThreeBytes(t *testing.T) {
	for _, most := range []int{0, 127, 128, 200, 16383} {
		for one := range 256 {
			for two := range 256 {
				feedAll(t, most, []byte{byte(one)}, []byte{byte(two)})
			}
		}
	}
	edges := []byte{0, 1, 2, 0x3f, 0x40, 0x41, 0x7e, 0x7f, 0x80, 0x81, 0xbf, 0xc0, 0xc1, 0xfe, 0xff}
	for _, most := range []int{0, 16384, 100000, top} {
		for _, one := range edges {
			for _, two := range edges {
				for three := range 256 {
					feedAll(t, most, []byte{one, two}, []byte{byte(three)})
				}
			}
		}
	}
}

func TestP27_1_HeldAndDoneAtEachByteOfAMessage(t *testing.T) {
	for _, n := range []int{0, 1, 2, 127, 128, 300, 16384} {
		m := counted(n)
		b := plainEncode(m)
		r := newReader(t, n)
		for range 2 {
			for i := range len(b) - 1 {
				gives(t, r, b[i:i+1], i+1)
			}
			gives(t, r, b[len(b)-1:], 0, m)
		}
	}
}

// What is whole is answered once, by the call that makes it whole, and what isn't is not answered at all.
func TestP27_1_ManyMessagesInOneCall(t *testing.T) {
	r := newReader(t, 300)
	long := counted(300)
	gives(t, r, "\x00\x00\x00\x01a\x02bc\xac\x02"+long+"\x00\x03de", 3, "", "", "", "a", "bc", long, "")
	gives(t, r, "", 3)
	gives(t, r, "f\x00\xac", 1, "def", "")
	gives(t, r, "\x02"+long[:299], 301)
	gives(t, r, long[299:]+"\x00", 0, long, "")
	gives(t, r, strings.Repeat("\x00", 5000), 0, make([]string, 5000)...)
}

// The messages ahead of a length that may not be are those of this call alone; what was begun ahead of it goes.
func TestP27_1_TheMessagesAheadOfADeath(t *testing.T) {
	r := newReader(t, 3)
	gives(t, r, "\x01a\x02b", 2, "a")
	gives(t, r, "c\x00\x03de", 3, "bc", "")
	dies(t, r, "f\x01g\x00\x04\x01h", "def", "g", "")
	r = newReader(t, 3)
	gives(t, r, "\x01a\x80", 1, "a")
	dies(t, r, "\x00\x01b")
	r = newReader(t, 3)
	gives(t, r, "\xff\xff", 2)
	dies(t, r, "\x80\x01b")
}

func TestP27_1_ADeadReaderIsDeadForGood(t *testing.T) {
	for _, bad := range []string{"\x04", "\x80\x00", "\x80\x80\x80", "\x01a\x85\x01", "\x03abc\xff\xff\x7fabc"} {
		r := newReader(t, 3)
		if _, err := r.Feed([]byte(bad)); !sentinels.Just(err, api.ErrLength) {
			t.Fatalf("Feed(%x): %v, want ErrLength", bad, err)
		}
		for _, b := range []string{"", "\x00", "\x01a", "\x02abc", bad, strings.Repeat("\x00", 5000)} {
			if got, err := r.Feed([]byte(b)); len(got) != 0 || !sentinels.Just(err, api.ErrDead) {
				t.Errorf("dead of %x, Feed(%s): %s, %v, want ErrDead", bad, short(b), told(got), err)
			}
			stands(t, r, reading{dead: true})
		}
		if got, err := r.Feed(nil); len(got) != 0 || !sentinels.Just(err, api.ErrDead) {
			t.Errorf("dead of %x, Feed(nil): %s, %v, want ErrDead", bad, told(got), err)
		}
	}
}

func TestP27_1_NothingChangesNothing(t *testing.T) {
	b := encoded("abc", "", counted(130), "d")
	var pieces [][]byte
	for i := range b {
		pieces = append(pieces, nil, b[i:i+1], []byte{})
	}
	feedAll(t, 200, pieces...)
	feedAll(t, 129, pieces...) // it dies of the third
}

// The greatest message in the smallest pieces: each byte is gone through once, not once for each that comes behind it.
func TestP1_TheGreatestMessageByteByByte(t *testing.T) {
	m := counted(top)
	b := []byte(plainEncode(m))
	r := newReader(t, top)
	for i := range len(b) - 1 {
		if got, err := r.Feed(b[i : i+1]); len(got) != 0 || err != nil || r.Held() != i+1 {
			t.Fatalf("byte %d: %s, %v, held %d", i, told(got), err, r.Held())
		}
	}
	gives(t, r, string(b[len(b)-1:])+"\x01z", 0, m, "z")
}

func TestR7_ANilReader(t *testing.T) {
	var r *msg.Reader
	for _, b := range []string{"", "\x00", "\x01a", "\x80\x80\x80", strings.Repeat("\xff", 100)} {
		if got, err := r.Feed([]byte(b)); len(got) != 0 || !sentinels.Just(err, api.ErrNil) {
			t.Errorf("Feed(%s): %s, %v, want ErrNil", short(b), told(got), err)
		}
		if got, err := r.Feed(nil); len(got) != 0 || !sentinels.Just(err, api.ErrNil) {
			t.Errorf("Feed(nil): %s, %v, want ErrNil", told(got), err)
		}
		if err := r.Done(); r.Held() != 0 || !sentinels.Just(err, api.ErrNil) {
			t.Errorf("held %d, Done: %v, want 0 and ErrNil", r.Held(), err)
		}
	}
}

func TestR9_ReadersDoNotHangOnEachOther(t *testing.T) {
	one, other, third := newReader(t, 5), newReader(t, 300), newReader(t, 0)
	first, second := encoded("abcde"), encoded(counted(300))
	for i := range first[:5] {
		gives(t, one, string(first[i:i+1]), i+1)
		gives(t, other, string(second[i:i+1]), i+1)
	}
	dies(t, third, string(second))
	stands(t, one, reading{held: 5})
	gives(t, one, "e", 0, "abcde")
	stands(t, other, reading{held: 5})
	dies(t, one, "\x06")
	gives(t, other, string(second[5:]), 0, counted(300))
	stands(t, newReader(t, 5), reading{})
}

// An Encode hangs on its arguments alone: not on what was encoded ahead of it.
func TestR9_EncodesDoNotHangOnEachOther(t *testing.T) {
	var all [][]byte
	messages := []string{"abc", "", counted(300), "x", counted(128), "abc"}
	for _, m := range messages {
		b, _ := msg.Encode([]byte(m), 300)
		all = append(all, b)
	}
	if !slices.EqualFunc(all, messages, func(b []byte, m string) bool { return string(b) == plainEncode(m) }) {
		t.Errorf("%s", told(all))
	}
}
