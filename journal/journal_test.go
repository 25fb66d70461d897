package journal_test

import (
	"bytes"
	"encoding/hex"
	"math"
	"strings"
	"testing"

	"culvert/api"
	"culvert/journal"
	"culvert/sentinels"
	"culvert/specimens"
)

// hexed: bytes that are written in base sixteen, with blanks among them.
func hexed(t *testing.T, text string) []byte {
	t.Helper()
	b, err := hex.DecodeString(strings.ReplaceAll(text, " ", ""))
	if err != nil {
		t.Fatal(err)
	}
	return b
}

// encoded: the record of a call that must have one, and must be as the chapter says.
func encoded(t *testing.T, op api.PoolOp) []byte {
	t.Helper()
	lent := op
	lent.Data, lent.Link.Data = lend(op.Data), lend(op.Link.Data)
	b, err := journal.Encode(lent)
	if !unchanged(lent.Data, op.Data) || !unchanged(lent.Link.Data, op.Link.Data) {
		t.Fatal("Encode has changed what it was handed")
	}
	specimens.Spoil(lent.Data)
	specimens.Spoil(lent.Link.Data)
	want, why := plainEncode(op)
	if why != nil || err != nil || !bytes.Equal(b, want) {
		t.Fatalf("Encode of the Kind %d: % x, %v, want % x, %v", op.Kind, short(b), err, short(want), why)
	}
	return b
}

// unencoded: a call that must have no record.
func unencoded(t *testing.T, op api.PoolOp, want error) {
	t.Helper()
	_, why := plainEncode(op)
	if b, err := journal.Encode(op); len(b) != 0 || !sentinels.Just(err, want) || why != want {
		t.Fatalf("Encode of the Kind %d, %d and %d bytes: % x, %v, want %v, %v", op.Kind, len(op.Data), len(op.Link.Data), short(b), err, want, why)
	}
}

// mustRead: what Decode must answer.
func mustRead(t *testing.T, b []byte, want []api.PoolOp, n int, why error) {
	t.Helper()
	ops, k, err := decoded(t, b)
	if !sameOps(ops, want) || k != n || !sentinels.Just(err, why) {
		t.Fatalf("Decode(% x): %v, %d, %v, want %v, %d, %v", short(b), ops, k, err, want, n, why)
	}
}

// The chapter's examples, in their order.
func TestP32_1_Examples(t *testing.T) {
	open := hexed(t, "00 00 00 01 04 f0 0e 5b f2")
	if b := encoded(t, opens()); !bytes.Equal(b, open) {
		t.Errorf("PoolOpen: % x", b)
	}
	unencoded(t, api.PoolOp{Kind: 12}, api.ErrRange)
	connect := hexed(t, "00 00 00 09 02 00 00 00 00 00 00 00 01")
	if b := encoded(t, connects(1)); len(b) != len(connect)+4 || !bytes.HasPrefix(b, connect) {
		t.Errorf("PoolConnect: % x", b)
	}

	mustRead(t, nil, nil, 0, nil)
	mustRead(t, append(open[:9:9], 0, 0), []api.PoolOp{opens()}, 9, api.ErrShort)
	turned := bytes.Clone(open)
	turned[4] = 5
	mustRead(t, turned, nil, 0, api.ErrHistory)
	mustRead(t, []byte{0, 0, 0, 0}, nil, 0, api.ErrLength)

	b := begun(t)
	b.refuses(t, opens(), api.ErrMissing)
	b.well(t, news(1, 1, small()))
	b.refuses(t, news(1, 1, small()), api.ErrTwice)
	b.well(t, connects(0))
	b.failsKept(t, connects(0), api.ErrLive)
	b.answers(t, opens(), api.LinkResult{N: 1})
	b.answers(t, writes(1, "ab"), api.LinkResult{N: 2})
	b.again(t)
	for _, j := range b.all {
		if at, ok := j.Pool().Handle(1); at != (api.Place{Conn: 0, Life: 1, ID: 1}) || !ok {
			t.Errorf("Handle(1): %v, %v", at, ok)
		}
	}
	b.failsKept(t, opens(), api.ErrLimit)

	j, n, err := journal.Replay(records(opens(), news(1, 1, small())))
	if j == nil || j.Pool() != nil || len(j.Bytes()) != 0 || n != 0 || !sentinels.Just(err, api.ErrMissing) {
		t.Errorf("Replay: %v, %d, %v", j, n, err)
	}
}

// full: a call of this Kind in which every field has a value of its own.
func full(kind api.PoolKind) api.PoolOp {
	return api.PoolOp{
		Kind: kind, K: 1, H: 2, N: 3, Data: []byte{0xa1, 0xa2},
		Cfg:  api.Config{Window: 4, Stage: 5, Frame: 6, Streams: 7, Backlog: 8, Pings: 9, Out: 10, Skip: 11},
		Link: api.LinkOp{Kind: 12, End: 13, ID: 14, N: 15, Data: []byte{0xb1, 0xb2, 0xb3}},
	}
}

// ints: small numbers as a body has them.
func ints(numbers ...byte) string {
	var text strings.Builder
	for _, n := range numbers {
		text.WriteString("00 00 00 00 00 00 00 " + hex.EncodeToString([]byte{n}))
	}
	return text.String()
}

// Each Kind's body, byte for byte, and the call that is read out of it: its bare form.
func TestP32_1_EachKind(t *testing.T) {
	f := full(0)
	link := ints(12) + "00 00 00 0e" + ints(15) + "00 00 00 03 b1 b2 b3"
	bareLink := f.Link
	bareLink.End = 0
	for _, c := range []struct {
		kind api.PoolKind
		body string
		bare api.PoolOp
	}{
		{1, "01" + ints(3, 2, 4, 5, 6, 7, 8, 9, 10, 11), api.PoolOp{Kind: 1, N: 3, H: 2, Cfg: f.Cfg}},
		{2, "02" + ints(1), api.PoolOp{Kind: 2, K: 1}},
		{3, "03" + ints(1), api.PoolOp{Kind: 3, K: 1}},
		{4, "04", api.PoolOp{Kind: 4}},
		{5, "05" + ints(2) + "00 00 00 02 a1 a2", api.PoolOp{Kind: 5, H: 2, Data: f.Data}},
		{6, "06" + ints(2, 3), api.PoolOp{Kind: 6, H: 2, N: 3}},
		{7, "07" + ints(2), api.PoolOp{Kind: 7, H: 2}},
		{8, "08" + ints(2), api.PoolOp{Kind: 8, H: 2}},
		{9, "09" + ints(1) + link, api.PoolOp{Kind: 9, K: 1, Link: bareLink}},
		{10, "0a" + ints(1) + link, api.PoolOp{Kind: 10, K: 1, Link: bareLink}},
		{11, "0b" + ints(3), api.PoolOp{Kind: 11, N: 3}},
	} {
		body := hexed(t, c.body)
		b := encoded(t, full(c.kind))
		if len(b) != len(body)+8 || !bytes.Equal(b[:4], []byte{0, 0, 0, byte(len(body))}) || !bytes.Equal(b[4:4+len(body)], body) {
			t.Errorf("Kind %d: % x, want the body % x", c.kind, b, body)
		}
		if !sameOp(bare(full(c.kind)), c.bare) {
			t.Errorf("Kind %d: the bare form is %v", c.kind, c.bare)
		}
		mustRead(t, b, []api.PoolOp{c.bare}, len(b), nil)
		mustRead(t, encoded(t, c.bare), []api.PoolOp{c.bare}, len(b), nil)
	}
}

// The api's names have the numbers of the table.
func TestP32_1_TheKindsNumbers(t *testing.T) {
	for i, kind := range []api.PoolKind{
		api.PoolNew, api.PoolConnect, api.PoolCut, api.PoolOpen, api.PoolWrite, api.PoolRead, api.PoolClose, api.PoolReset, api.PoolFar, api.PoolNear, api.PoolRounds,
	} {
		if b := encoded(t, api.PoolOp{Kind: kind}); int(kind) != i+1 || int(b[4]) != i+1 {
			t.Errorf("Kind %d: % x", kind, b)
		}
	}
}

// edges: numbers at the edges of bytes, of 32 and of 64 bits, and of the limits.
var edges = []int{
	math.MinInt, math.MinInt + 1, -1 << 40, -1<<32 - 1, -1 << 32, -1 << 31, -1<<31 - 1, -65536, -257, -256, -255, -129, -128, -2, -1, 0, 1, 2, 3, 11, 12, 127, 128, 255, 256, 257, 65535, 65536,
	1<<20 - 1, 1 << 20, 1<<20 + 1, 1<<24 + 1, 1<<31 - 1, 1 << 31, 1<<32 - 1, 1 << 32, 1<<32 + 1, 0x0102030405060708, math.MaxInt - 1, math.MaxInt,
}

// Each field of each Kind, at all edges, there and back.
func TestP32_2_ThereAndBackAtTheEdges(t *testing.T) {
	for kind := api.PoolKind(1); kind <= 11; kind++ {
		op := full(kind)
		for i := range named(&op) {
			for _, n := range edges {
				op := full(kind)
				set(named(&op)[i], n)
				b := encoded(t, op)
				mustRead(t, b, []api.PoolOp{bare(op)}, len(b), nil)
			}
		}
	}
}

// A list that is empty is written and read, nil or empty.
func TestP32_2_EmptyLists(t *testing.T) {
	for _, empty := range [][]byte{nil, {}} {
		for _, op := range []api.PoolOp{
			{Kind: api.PoolWrite, Data: empty},
			{Kind: api.PoolFar, Link: api.LinkOp{Kind: api.DoInject, Data: empty}},
			{Kind: api.PoolNear, Link: api.LinkOp{Kind: api.DoStep, Data: empty}},
		} {
			b := encoded(t, op)
			mustRead(t, b, []api.PoolOp{op}, len(b), nil)
		}
	}
}

// A Kind that there is none of, though its lowest byte may be one's; whatever the lists are.
func TestP32_1_NoKind(t *testing.T) {
	great := make([]byte, 1<<20)
	for kind := range 12 {
		for _, n := range []int{-1 << 32, -1 << 8, 1 << 8, 1 << 16, 1 << 32, math.MinInt} {
			unencoded(t, api.PoolOp{Kind: api.PoolKind(kind + n)}, api.ErrRange)
		}
	}
	for _, kind := range []api.PoolKind{math.MinInt, -12, -11, -1, 0, 12, 13, 127, 128, 255, math.MaxInt} {
		unencoded(t, api.PoolOp{Kind: kind}, api.ErrRange)
		unencoded(t, api.PoolOp{Kind: kind, Data: great, Link: api.LinkOp{Data: great}}, api.ErrRange)
	}
}

// The longest body, and one byte more; a list that isn't written may be as long as it is.
func TestP32_1_TheLongestBody(t *testing.T) {
	const most = 1048576
	great := bytes.Repeat([]byte("culvert "), most/4)
	for _, c := range []struct {
		op    func(data []byte) api.PoolOp
		other int // the bytes of the body that aren't the list's
	}{
		{func(data []byte) api.PoolOp { return api.PoolOp{Kind: api.PoolWrite, H: 1, Data: data} }, 13},
		{func(data []byte) api.PoolOp { return far(1, api.LinkOp{Data: data}) }, 33},
		{func(data []byte) api.PoolOp { return near(1, api.LinkOp{Data: data}) }, 33},
	} {
		for _, size := range []int{most - c.other - 1, most - c.other} {
			op := c.op(great[:size])
			b := encoded(t, op)
			if len(b) != size+c.other+8 {
				t.Errorf("a record of %d bytes", len(b))
			}
			mustRead(t, b, []api.PoolOp{op}, len(b), nil)
			mustRead(t, append(b, b...), []api.PoolOp{op, op}, 2*len(b), nil)
			mustRead(t, b[:len(b)-1], nil, 0, api.ErrShort)
		}
		for _, size := range []int{most - c.other + 1, most - c.other + 2, most, most + 1, 2 * most} {
			unencoded(t, c.op(great[:size]), api.ErrLength)
		}
	}
	for kind := api.PoolKind(1); kind <= 11; kind++ {
		op := full(kind)
		if kind != api.PoolWrite {
			op.Data = great
		}
		if kind != api.PoolFar && kind != api.PoolNear {
			op.Link.Data = great
		}
		if b := encoded(t, op); len(b) > 100 {
			t.Errorf("Kind %d: %d bytes", kind, len(b))
		}
	}
}
