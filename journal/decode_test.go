package journal_test

import (
	"bytes"
	"encoding/binary"
	"slices"
	"testing"

	"culvert/api"
	"culvert/draws"
	"culvert/journal"
	"culvert/sentinels"
	"culvert/specimens"
)

// each: one call of each Kind, and some more of those that have lists.
func each() []api.PoolOp {
	var all []api.PoolOp
	for kind := api.PoolKind(1); kind <= 11; kind++ {
		all = append(all, bare(full(kind)))
	}
	return append(all, writes(-1, ""), writes(7, "\x00"), farWrites(0, 1, "abcdefghijklmnopqrstuvwxyz"), injects(1), writes(1<<31, "ab"))
}

// The first of the errors that holds, at each of them, ahead of everything and behind good records.
func TestP32_1_WhyDecodeEnds(t *testing.T) {
	open, good := record(opens()), each()
	turned := bytes.Clone(open)
	turned[8]++
	for _, c := range []struct {
		what string
		b    []byte
		want error
	}{
		{"nothing", nil, nil},
		{"a byte", []byte{0}, api.ErrShort},
		{"three bytes of a length that may not be", []byte{255, 255, 255}, api.ErrShort},
		{"the length 0", []byte{0, 0, 0, 0}, api.ErrLength},
		{"the length 0, and its sum", summed([]byte{0, 0, 0, 0}), api.ErrLength},
		{"a length above the most", []byte{0, 16, 0, 1}, api.ErrLength},
		{"a great length above the most", []byte{1, 0, 0, 0}, api.ErrLength},
		{"a length of 31 bits", []byte{127, 255, 255, 255}, api.ErrLength},
		{"a length of 32 bits", []byte{128, 0, 0, 0}, api.ErrLength},
		{"the greatest number as a length", []byte{255, 255, 255, 255}, api.ErrLength},
		{"the most as a length", []byte{0, 16, 0, 0}, api.ErrShort},
		{"the most as a length, and a byte", []byte{0, 16, 0, 0, 4}, api.ErrShort},
		{"a length alone", open[:4], api.ErrShort},
		{"a length and a body", open[:5], api.ErrShort},
		{"all but a byte", open[:8], api.ErrShort},
		{"all but a byte of another sum", turned[:8], api.ErrShort},
		{"another sum", turned, api.ErrHistory},
		{"another sum of what is no call", append([]byte{0, 0, 0, 1, 99}, 0, 0, 0, 0), api.ErrHistory},
		{"the sum of the body alone", append(open[:5:5], summed(open[4:5])[1:]...), api.ErrHistory},
		{"the sum with its lowest byte first", append(open[:5:5], 0xf2, 0x5b, 0x0e, 0xf0), api.ErrHistory},
		{"no Kind", framed([]byte{0}), api.ErrArgument},
		{"a byte too many", framed([]byte{4, 0}), api.ErrArgument},
		{"a body of noughts", framed(make([]byte, 1<<20)), api.ErrArgument},
		{"the longest body, of no call", framed(bytes.Repeat([]byte{4}, 1<<20)), api.ErrArgument},
	} {
		t.Log(c.what)
		mustRead(t, c.b, nil, 0, c.want)
		if c.want != nil {
			mustRead(t, append(bytes.Clone(c.b), open...), nil, 0, whyAhead(c.b, open, c.want))
		}
		ahead := records(good...)
		mustRead(t, append(ahead[:len(ahead):len(ahead)], c.b...), good, len(ahead), c.want)
	}
}

// whyAhead: a record behind bytes that were too few may make them enough.
func whyAhead(b, behind []byte, why error) error {
	if why != api.ErrShort {
		return why
	}
	_, _, why = plainDecode(append(bytes.Clone(b), behind...))
	return why
}

// Bodies that are none, each with its sum: Kinds that there aren't, fields that aren't all there, something behind the last one.
func TestP32_1_BodiesThatAreNone(t *testing.T) {
	known := map[byte]int{1: 80, 2: 8, 3: 8, 5: 12, 6: 16, 7: 8, 8: 8, 9: 32, 10: 32, 11: 8}
	for kind := range 256 {
		for size := range 120 {
			b := append([]byte{byte(kind)}, make([]byte, size)...)
			want := api.ErrArgument
			if kind == 4 && size == 0 || size > 0 && known[byte(kind)] == size {
				want = nil
			}
			if _, _, err := decoded(t, framed(b)); !sentinels.Just(err, want) {
				t.Fatalf("Kind %d with %d bytes: %v, want %v", kind, size, err, want)
			}
		}
	}
	for _, op := range each() {
		whole := body(op)
		for cut := 1; cut < len(whole); cut++ {
			mustRead(t, framed(whole[:cut]), nil, 0, api.ErrArgument)
			mustRead(t, framed(slices.Concat(whole, whole[:cut])), nil, 0, api.ErrArgument)
		}
		mustRead(t, framed(append(whole, 0)), nil, 0, api.ErrArgument)
		mustRead(t, framed(slices.Concat(whole, whole)), nil, 0, api.ErrArgument)
	}
}

// A list whose number of bytes is another one than those that are there.
func TestP32_1_ListsThatAreNotAllThere(t *testing.T) {
	for _, c := range []struct {
		op api.PoolOp
		at int // where the number stands
	}{{writes(1, "abcd"), 9}, {farWrites(0, 1, "abcd"), 29}, {near(0, api.LinkOp{Data: []byte("abcd")}), 29}} {
		whole := body(c.op)
		for _, n := range []uint32{0, 1, 3, 5, 6, 8, 255, 256 + 4, 1<<16 + 4, 1<<24 + 4, 1 << 31, 1<<31 + 4, 1<<32 - 4, 1<<32 - 1} {
			binary.BigEndian.PutUint32(whole[c.at:], n)
			mustRead(t, framed(whole), nil, 0, api.ErrArgument)
			mustRead(t, framed(whole[:c.at+4]), readIf(c.op, n), sizeIf(whole[:c.at+4], n), whyIf(n))
		}
	}
}

// readIf, sizeIf and whyIf: a list of no bytes is all there.
func readIf(op api.PoolOp, n uint32) []api.PoolOp {
	if n > 0 {
		return nil
	}
	op.Data, op.Link.Data = nil, nil
	return []api.PoolOp{op}
}

func sizeIf(body []byte, n uint32) int {
	if n > 0 {
		return 0
	}
	return len(body) + 8
}

func whyIf(n uint32) error {
	if n > 0 {
		return api.ErrArgument
	}
	return nil
}

// Records one behind the other, cut off anywhere.
func TestP32_3_Torn(t *testing.T) {
	ops := slices.Concat(each(), each())
	all := records(ops...)
	ends := map[int]int{0: 0} // how many records stand ahead of it
	for i := range ops {
		ends[len(records(ops[:i+1]...))] = i + 1
	}
	whole, end := 0, 0
	for cut := range len(all) + 1 {
		want := api.ErrShort
		if n, ok := ends[cut]; ok {
			whole, end, want = n, cut, nil
		}
		mustRead(t, all[:cut], ops[:whole], end, want)
	}
}

// Each byte of each body and each sum, as each other byte.
func TestP32_4_Turned(t *testing.T) {
	ops := each()
	all := records(ops...)
	end := 0
	for i, op := range ops {
		size := len(record(op))
		for at := end + 4; at < end+size; at++ {
			for other := range 255 {
				b := bytes.Clone(all)
				b[at] += byte(other + 1)
				if got, n, err := journal.Decode(b); !sameOps(got, ops[:i]) || n != end || !sentinels.Just(err, api.ErrHistory) {
					t.Fatalf("byte %d as %d: %v, %d, %v, want %v, %d", at, b[at], got, n, err, ops[:i], end)
				}
			}
		}
		end += size
	}
}

// A byte of a length as another one: the records ahead of it are read, and none that isn't a good one.
func TestP32_4_TurnedLengths(t *testing.T) {
	ops := each()
	all := records(ops...)
	end := 0
	for i, op := range ops {
		for at := end; at < end+4; at++ {
			for other := range 255 {
				b := bytes.Clone(all)
				b[at] += byte(other + 1)
				if got, n, err := decoded(t, b); !sameOps(got, ops[:i]) || n != end || err == nil {
					t.Fatalf("byte %d as %d: %v, %d, %v, want %v, %d", at, b[at], got, n, err, ops[:i], end)
				}
			}
		}
		end += len(record(op))
	}
}

// drawnOp: a call of any Kind, with any numbers and lists, also where its Kind names none.
func drawnOp(row *draws.Draws) api.PoolOp {
	op := api.PoolOp{Kind: api.PoolKind(1 + row.Below(11)), Data: drawnBytes(row, 30), Link: api.LinkOp{Data: drawnBytes(row, 30), End: row.Below(5)}}
	c, l := &op.Cfg, &op.Link
	for _, n := range []*int{&op.K, &op.H, &op.N, &l.N, &c.Window, &c.Stage, &c.Frame, &c.Streams, &c.Backlog, &c.Pings, &c.Out, &c.Skip} {
		*n = drawnNumber(row)
	}
	l.Kind, l.ID = api.LinkKind(drawnNumber(row)), uint32(drawnNumber(row))
	return op
}

func drawnNumber(row *draws.Draws) int {
	if row.Below(3) > 0 {
		return edges[row.Below(len(edges))]
	}
	return row.Below(1<<32)<<32 | row.Below(1<<32)
}

func drawnBytes(row *draws.Draws, most int) []byte {
	b := make([]byte, row.Below(most))
	for i := range b {
		b[i] = byte(row.Below(256))
	}
	return b
}

func TestP32_2_ThereAndBackOfDrawnCalls(t *testing.T) {
	row := draws.Draws(3202)
	for range 3000 {
		var ops []api.PoolOp
		var all []byte
		for range row.Below(6) {
			op := drawnOp(&row)
			b := encoded(t, op)
			mustRead(t, b, []api.PoolOp{bare(op)}, len(b), nil)
			ops, all = append(ops, bare(op)), append(all, b...)
		}
		mustRead(t, all, ops, len(all), nil)
	}
}

// drawnBody: a call's, or one that is off it by something.
func drawnBody(row *draws.Draws) []byte {
	b := body(bare(drawnOp(row)))
	switch row.Below(12) {
	case 0:
		b = b[:1+row.Below(len(b))]
	case 1:
		b = append(b, drawnBytes(row, 9)...)
	case 2:
		b[0] = byte(row.Below(14))
	case 3:
		b[row.Below(len(b))] += byte(row.Below(256))
	case 4:
		b = append(drawnBytes(row, 40), 9)
	}
	return b
}

// drawnRecords: bytes in which good records stand ahead of what is none.
func drawnRecords(row *draws.Draws) []byte {
	var all []byte
	for range row.Below(8) {
		b := framed(drawnBody(row))
		switch row.Below(24) {
		case 0:
			b[row.Below(len(b))]++
		case 1:
			b = b[:row.Below(len(b))]
		case 2:
			b = append(b, drawnBytes(row, 5)...)
		}
		all = append(all, b...)
	}
	return all
}

// P1: any bytes, with right sums and wrong ones; what is read of them is the beginning of what is read where more stands behind them.
func TestP32_2_MoreBehind(t *testing.T) {
	row := draws.Draws(3203)
	met := map[error]int{}
	for range 1500 {
		all := drawnRecords(&row)
		ops, n, err := decoded(t, all)
		met[err]++
		for range 6 {
			cut := row.Below(len(all) + 1)
			fewer, k, _ := decoded(t, all[:cut])
			if len(fewer) > len(ops) || !sameOps(fewer, ops[:len(fewer)]) || k > n || n <= cut && k != n {
				t.Fatalf("P32.2: of %d bytes %v, %d, of %d %v, %d", cut, fewer, k, len(all), ops, n)
			}
		}
	}
	for _, want := range []error{nil, api.ErrShort, api.ErrLength, api.ErrHistory, api.ErrArgument} {
		if met[want] < 30 {
			t.Errorf("%v is met too seldom: %v", want, met)
		}
	}
}

// P1: bytes of which nearly none is a record.
func TestP1_AnyBytes(t *testing.T) {
	row := draws.Draws(3204)
	for range 20000 {
		decoded(t, drawnBytes(&row, 60))
	}
	for n := range 1 << 16 {
		b := binary.BigEndian.AppendUint16(nil, uint16(n))
		decoded(t, b)
		decoded(t, append(b, 0, 1))
	}
}

// P32.7: what is answered shares nothing with what was handed in, nor one list with another, spare room too.
func TestP32_7_RecordsAndCallsAreNewMemory(t *testing.T) {
	ops := each()
	var lists [][]byte
	for _, op := range ops {
		b := encoded(t, op)
		other := encoded(t, op)
		specimens.Spoil(b)
		lists = append(lists, other)
	}
	for i, op := range ops {
		if !bytes.Equal(lists[i], record(op)) {
			t.Errorf("Kind %d: its record shares memory with another one", op.Kind)
		}
	}
	all := records(ops...)
	lent := lend(all)
	got, _, _ := journal.Decode(lent)
	other, _, _ := journal.Decode(lent)
	for i := range got {
		specimens.Spoil(got[i].Data)
		specimens.Spoil(got[i].Link.Data)
		if !sameOps(got[i+1:], ops[i+1:]) {
			t.Errorf("the lists of call %d share memory with those of another one", i)
		}
		got[i] = api.PoolOp{}
	}
	if !unchanged(lent, all) || !sameOps(other, ops) {
		t.Error("a call's lists share memory with the bytes, or with another answer")
	}
	clear(got[:cap(got)])
	if !sameOps(other, ops) {
		t.Error("the lists of two answers share memory")
	}
}

// Many records, and those of the greatest size.
func TestP32_2_ManyRecords(t *testing.T) {
	const many = 200_000
	all := bytes.Repeat(record(opens()), many)
	ops, n, err := journal.Decode(all)
	if len(ops) != many || n != len(all) || err != nil {
		t.Errorf("%d calls, %d, %v", len(ops), n, err)
	}
	great := writes(1, string(make([]byte, 1<<20-13)))
	b := bytes.Repeat(record(great), 20)
	ops, n, err = journal.Decode(b)
	if len(ops) != 20 || n != len(b) || err != nil || !sameOp(ops[19], great) {
		t.Errorf("%d calls, %d, %v", len(ops), n, err)
	}
}
