package num_test

import (
	"bytes"
	"math"
	"testing"

	"culvert/api"
	"culvert/num"
	"culvert/sentinels"
	"culvert/specimens"
)

const most = math.MaxUint32

// edges are the numbers around which bytes, sums and differences change.
var edges = []uint32{0, 1, 2, 3, 254, 255, 256, 257, 258, 65534, 65535, 65536, 65537, 1<<24 - 1, 1 << 24, 16909060, 1<<31 - 1, 1 << 31, 1<<31 + 1, most - 2, most - 1, most}

// samples: the edges, and numbers spread over the whole range by a fixed rule.
func samples() []uint32 {
	all := append([]uint32{}, edges...)
	v := uint32(1)
	for range 300 {
		v = v*1664525 + 1013904223
		all = append(all, v)
	}
	return all
}

func TestP1_1_Bytes16(t *testing.T) {
	for _, c := range []struct {
		v    uint16
		want []byte
	}{
		{0, []byte{0, 0}},
		{1, []byte{0, 1}},
		{255, []byte{0, 255}},
		{256, []byte{1, 0}},
		{258, []byte{1, 2}},
		{32768, []byte{128, 0}},
		{65535, []byte{255, 255}},
	} {
		if got := num.Bytes16(c.v); !bytes.Equal(got, c.want) {
			t.Errorf("Bytes16(%d): %x, want %x", c.v, got, c.want)
		}
	}
}

func TestP1_1_Bytes32(t *testing.T) {
	for _, c := range []struct {
		v    uint32
		want []byte
	}{
		{0, []byte{0, 0, 0, 0}},
		{1, []byte{0, 0, 0, 1}},
		{256, []byte{0, 0, 1, 0}},
		{65536, []byte{0, 1, 0, 0}},
		{1 << 24, []byte{1, 0, 0, 0}},
		{16909060, []byte{1, 2, 3, 4}},
		{1 << 31, []byte{128, 0, 0, 0}},
		{most, []byte{255, 255, 255, 255}},
	} {
		if got := num.Bytes32(c.v); !bytes.Equal(got, c.want) {
			t.Errorf("Bytes32(%d): %x, want %x", c.v, got, c.want)
		}
	}
}

func TestP1_1_Get16(t *testing.T) {
	for _, c := range []struct {
		b    []byte
		want uint16
		err  error
	}{
		{nil, 0, api.ErrShort},
		{[]byte{}, 0, api.ErrShort},
		{[]byte{1}, 0, api.ErrShort},
		{[]byte{255, 255, 255}[:1], 0, api.ErrShort},
		{[]byte{0, 0}, 0, nil},
		{[]byte{1, 2}, 258, nil},
		{[]byte{1, 2, 3}, 258, nil},
		{[]byte{2, 1, 255, 255, 255}, 513, nil},
		{[]byte{255, 255}, 65535, nil},
	} {
		if got, err := num.Get16(c.b); got != c.want || !sentinels.Just(err, c.err) {
			t.Errorf("Get16(%x): %d, %v, want %d, %v", c.b, got, err, c.want, c.err)
		}
	}
}

func TestP1_1_Get32(t *testing.T) {
	for _, c := range []struct {
		b    []byte
		want uint32
		err  error
	}{
		{nil, 0, api.ErrShort},
		{[]byte{}, 0, api.ErrShort},
		{[]byte{1}, 0, api.ErrShort},
		{[]byte{1, 2}, 0, api.ErrShort},
		{[]byte{0, 0, 1}, 0, api.ErrShort},
		{[]byte{255, 255, 255, 255}[:3], 0, api.ErrShort},
		{[]byte{0, 0, 0, 0}, 0, nil},
		{[]byte{1, 2, 3, 4}, 16909060, nil},
		{[]byte{1, 2, 3, 4, 5}, 16909060, nil},
		{[]byte{128, 0, 0, 0, 255, 255}, 1 << 31, nil},
		{[]byte{255, 255, 255, 255}, most, nil},
	} {
		if got, err := num.Get32(c.b); got != c.want || !sentinels.Just(err, c.err) {
			t.Errorf("Get32(%x): %d, %v, want %d, %v", c.b, got, err, c.want, c.err)
		}
	}
}

func TestP1_1_ThereAndBack16(t *testing.T) {
	for i := range 65536 {
		v := uint16(i)
		b := num.Bytes16(v)
		if got, err := num.Get16(b); got != v || err != nil {
			t.Fatalf("Get16(Bytes16(%d)): %d, %v", v, got, err)
		}
		raw := []byte{byte(i), byte(i >> 8)}
		read, err := num.Get16(raw)
		if err != nil || !bytes.Equal(num.Bytes16(read), raw) {
			t.Fatalf("Bytes16(Get16(%x)): %x, %v", raw, num.Bytes16(read), err)
		}
	}
}

func TestP1_1_ThereAndBack32(t *testing.T) {
	for _, v := range samples() {
		b := num.Bytes32(v)
		if got, err := num.Get32(b); got != v || err != nil {
			t.Errorf("Get32(Bytes32(%d)): %d, %v", v, got, err)
		}
		raw := []byte{byte(v), byte(v >> 8), byte(v >> 16), byte(v >> 24)}
		read, err := num.Get32(raw)
		if err != nil || !bytes.Equal(num.Bytes32(read), raw) {
			t.Errorf("Bytes32(Get32(%x)): %x, %v", raw, num.Bytes32(read), err)
		}
	}
}

func TestP1_2_Add(t *testing.T) {
	for _, c := range []struct {
		a, b, want uint32
		err        error
	}{
		{0, 0, 0, nil},
		{2, 3, 5, nil},
		{most, 0, most, nil},
		{0, most, most, nil},
		{most - 1, 1, most, nil},
		{1 << 31, 1<<31 - 1, most, nil},
		{most, 1, 0, api.ErrOverflow},
		{1, most, 0, api.ErrOverflow},
		{most - 1, 2, 0, api.ErrOverflow},
		{1 << 31, 1 << 31, 0, api.ErrOverflow},
		{most, most, 0, api.ErrOverflow},
	} {
		if got, err := num.Add(c.a, c.b); got != c.want || !sentinels.Just(err, c.err) {
			t.Errorf("Add(%d, %d): %d, %v, want %d, %v", c.a, c.b, got, err, c.want, c.err)
		}
	}
}

func TestP1_2_Sub(t *testing.T) {
	for _, c := range []struct {
		a, b, want uint32
		err        error
	}{
		{0, 0, 0, nil},
		{5, 3, 2, nil},
		{3, 3, 0, nil},
		{most, 0, most, nil},
		{most, most, 0, nil},
		{most, 1, most - 1, nil},
		{3, 4, 0, api.ErrUnderflow},
		{0, 1, 0, api.ErrUnderflow},
		{0, most, 0, api.ErrUnderflow},
		{most - 1, most, 0, api.ErrUnderflow},
	} {
		if got, err := num.Sub(c.a, c.b); got != c.want || !sentinels.Just(err, c.err) {
			t.Errorf("Sub(%d, %d): %d, %v, want %d, %v", c.a, c.b, got, err, c.want, c.err)
		}
	}
}

func TestP1_2_Narrow(t *testing.T) {
	for _, c := range []struct {
		n    int
		want uint32
		err  error
	}{
		{0, 0, nil},
		{77, 77, nil},
		{1 << 31, 1 << 31, nil},
		{most - 1, most - 1, nil},
		{most, most, nil},
		{most + 1, 0, api.ErrRange},
		{most + 2, 0, api.ErrRange},
		{1 << 40, 0, api.ErrRange},
		{math.MaxInt, 0, api.ErrRange},
		{-1, 0, api.ErrRange},
		{-most, 0, api.ErrRange},
		{math.MinInt, 0, api.ErrRange},
	} {
		if got, err := num.Narrow(c.n); got != c.want || !sentinels.Just(err, c.err) {
			t.Errorf("Narrow(%d): %d, %v, want %d, %v", c.n, got, err, c.want, c.err)
		}
	}
}

// Every pair is held against sums in 64 bits, which can't wrap.
func TestP1_2_SumsAndDifferencesUndoEachOther(t *testing.T) {
	for _, a := range samples() {
		for _, b := range samples() {
			checkAdd(t, a, b)
			checkSub(t, a, b)
		}
	}
}

func checkAdd(t *testing.T, a, b uint32) {
	t.Helper()
	wide := int64(a) + int64(b)
	sum, err := num.Add(a, b)
	if wide > most {
		if sum != 0 || !sentinels.Just(err, api.ErrOverflow) {
			t.Fatalf("Add(%d, %d): %d, %v", a, b, sum, err)
		}
		return
	}
	if int64(sum) != wide || err != nil {
		t.Fatalf("Add(%d, %d): %d, %v", a, b, sum, err)
	}
	if back, err := num.Sub(sum, b); back != a || err != nil {
		t.Fatalf("Sub(Add(%d, %d), %d): %d, %v", a, b, b, back, err)
	}
}

func checkSub(t *testing.T, a, b uint32) {
	t.Helper()
	wide := int64(a) - int64(b)
	rest, err := num.Sub(a, b)
	if wide < 0 {
		if rest != 0 || !sentinels.Just(err, api.ErrUnderflow) {
			t.Fatalf("Sub(%d, %d): %d, %v", a, b, rest, err)
		}
		return
	}
	if int64(rest) != wide || err != nil {
		t.Fatalf("Sub(%d, %d): %d, %v", a, b, rest, err)
	}
	if back, err := num.Add(rest, b); back != a || err != nil {
		t.Fatalf("Add(Sub(%d, %d), %d): %d, %v", a, b, b, back, err)
	}
}

func TestP1_3_AnswersAreNewMemory(t *testing.T) {
	for _, v := range edges {
		short, shortAgain := num.Bytes16(uint16(v)), num.Bytes16(uint16(v))
		long, longAgain := num.Bytes32(v), num.Bytes32(v)
		wantShort, wantLong := string(shortAgain), string(longAgain)
		specimens.Spoil(short)
		specimens.Spoil(long)
		if string(shortAgain) != wantShort || string(num.Bytes16(uint16(v))) != wantShort {
			t.Errorf("Bytes16(%d): one answer is seen in another", uint16(v))
		}
		if string(longAgain) != wantLong || string(num.Bytes32(v)) != wantLong {
			t.Errorf("Bytes32(%d): one answer is seen in another", v)
		}
	}
}

func TestP1_3_ArgumentsStayAsTheyAre(t *testing.T) {
	for size := range 8 {
		whole := []byte{1, 2, 3, 4, 5, 6, 7, 8}
		before := bytes.Clone(whole)
		_, _ = num.Get16(whole[:size])
		_, _ = num.Get32(whole[:size])
		if !bytes.Equal(whole, before) {
			t.Errorf("of %d bytes and spare room: %x, were %x", size, whole, before)
		}
	}
}
