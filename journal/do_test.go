package journal_test

import (
	"bytes"
	"math"
	"strings"
	"testing"

	"culvert/api"
	"culvert/journal"
	"culvert/sentinels"
	"culvert/specimens"
)

// others: a call of each Kind but PoolNew.
func others() []api.PoolOp {
	var all []api.PoolOp
	for kind := api.PoolConnect; kind <= api.PoolRounds; kind++ {
		all = append(all, api.PoolOp{Kind: kind})
	}
	return all
}

func TestP32_1_New(t *testing.T) {
	one, other := journal.New(), journal.New()
	if one == nil || other == nil || one == other {
		t.Fatalf("New: %p, %p", one, other)
	}
	if one.Pool() != nil || len(one.Bytes()) != 0 {
		t.Errorf("a new journal has %v, % x", one.Pool(), one.Bytes())
	}
	if _, err := one.Do(news(1, 1, small())); err != nil || one.Pool() == nil || other.Pool() != nil || len(other.Bytes()) != 0 {
		t.Errorf("a new journal behind another one's call: %v, %v", err, other.Pool())
	}
}

// What stands ahead of the pool, in its order; nothing of it is kept.
func TestP32_1_WhatReachesNoPool(t *testing.T) {
	great := string(make([]byte, 1<<20))
	b := begun(t)
	for range 2 { // without a pool, and with one
		for _, kind := range []api.PoolKind{math.MinInt, -1, 0, 12, 255, 256 + 1, 256 + 4, 1<<32 + 1, math.MaxInt} {
			b.refuses(t, api.PoolOp{Kind: kind, N: 1, H: 1, Cfg: small()}, api.ErrRange)
			b.refuses(t, api.PoolOp{Kind: kind, Data: []byte(great)}, api.ErrRange)
		}
		b.refuses(t, writes(1, great), api.ErrLength)
		b.refuses(t, farWrites(0, 1, great), api.ErrLength)
		b.refuses(t, near(-1, api.LinkOp{Kind: 99, Data: []byte(great)}), api.ErrLength)
		if b.all[0].Pool() != nil {
			break
		}
		for _, op := range others() {
			b.refuses(t, op, api.ErrMissing)
		}
		b.well(t, news(2, 2, small()))
	}
	for _, op := range []api.PoolOp{news(2, 2, small()), news(1, 1, small()), news(0, 1, small()), news(1, 0, small()), {Kind: api.PoolNew}} {
		b.refuses(t, op, api.ErrTwice)
	}
}

// What pool.New fails with, behind which there is no pool yet, and one may come.
func TestP32_1_PoolsThatMayNotBe(t *testing.T) {
	changed := func(change func(cfg *api.Config)) api.Config {
		cfg := small()
		change(&cfg)
		return cfg
	}
	b := begun(t)
	for _, c := range []struct {
		op   api.PoolOp
		want error
	}{
		{news(0, 1, small()), api.ErrRange},
		{news(-1, 1, small()), api.ErrRange},
		{news(65, 1, small()), api.ErrRange},
		{news(1<<32+1, 1, small()), api.ErrRange},
		{news(1, 0, small()), api.ErrRange},
		{news(1, 3, small()), api.ErrRange},
		{news(1, math.MinInt, small()), api.ErrRange},
		{news(1, 1, api.Config{}), api.ErrConfig},
		{news(0, 1, api.Config{}), api.ErrRange},
		{news(1, 0, api.Config{}), api.ErrConfig},
		{news(1, 1, changed(func(cfg *api.Config) { cfg.Window = 0 })), api.ErrConfig},
		{news(1, 1, changed(func(cfg *api.Config) { cfg.Stage = 1<<20 + 1 })), api.ErrConfig},
		{news(1, 1, changed(func(cfg *api.Config) { cfg.Frame = 1<<16 + 1 })), api.ErrConfig},
		{news(1, 1, changed(func(cfg *api.Config) { cfg.Streams = -1 })), api.ErrConfig},
		{news(1, 1, changed(func(cfg *api.Config) { cfg.Backlog = 1025 })), api.ErrConfig},
		{news(1, 1, changed(func(cfg *api.Config) { cfg.Pings = 0 })), api.ErrConfig},
		{news(1, 1, changed(func(cfg *api.Config) { cfg.Out = 0 })), api.ErrConfig},
		{news(1, 1, changed(func(cfg *api.Config) { cfg.Skip = -1 })), api.ErrConfig},
	} {
		b.refuses(t, c.op, c.want)
		b.refuses(t, opens(), api.ErrMissing)
		mustReplay(t, record(c.op), 0, c.want)
	}
	b.well(t, news(1, 1, small()))
	b.again(t)
}

// mustReplay: what Replay must answer.
func mustReplay(t *testing.T, b []byte, n int, want error) *both {
	t.Helper()
	x, k, err := replayed(t, b)
	if k != n || !sentinels.Just(err, want) {
		t.Fatalf("Replay(% x): %d, %v, want %d, %v", short(b), k, err, n, want)
	}
	return x
}

// Each row of the table, with the pool's own answers.
func TestP32_1_EachCall(t *testing.T) {
	b := begun(t, news(2, 2, small()), connects(0), connects(1))
	b.again(t)
	b.answers(t, opens(), api.LinkResult{N: 1})
	b.answers(t, opens(), api.LinkResult{N: 2})
	b.answers(t, writes(2, "abcdefghij"), api.LinkResult{N: 8})
	b.answers(t, writes(2, "k"), api.LinkResult{})
	b.answers(t, rounds(2), api.LinkResult{})
	b.answers(t, farAccepts(1), api.LinkResult{ID: 1})
	b.answers(t, farReads(1, 1, 9), api.LinkResult{Data: []byte("abc")})
	b.answers(t, farWrites(1, 1, "xyz"), api.LinkResult{N: 3})
	b.answers(t, far(1, only(api.DoOpen)), api.LinkResult{ID: 2})
	b.answers(t, rounds(5), api.LinkResult{})
	b.answers(t, reads(2, 2), api.LinkResult{Data: []byte("xy")})
	b.answers(t, reads(2, 2), api.LinkResult{Data: []byte("z")})
	b.answers(t, reads(2, 2), api.LinkResult{})
	b.answers(t, closes(2), api.LinkResult{})
	b.answers(t, resets(1), api.LinkResult{})
	b.answers(t, near(0, only(api.DoPing)), api.LinkResult{ID: 1})
	b.answers(t, near(1, only(api.DoPing)), api.LinkResult{ID: 1})
	b.answers(t, rounds(5), api.LinkResult{})
	b.answers(t, near(1, only(api.DoPongs)), api.LinkResult{IDs: []uint32{1}})
	b.answers(t, near(1, only(api.DoPing)), api.LinkResult{ID: 2})
	b.answers(t, near(1, only(api.DoStep)), api.LinkResult{N: 1})
	b.answers(t, near(1, many(api.DoSend, 9)), api.LinkResult{N: 9})
	b.answers(t, near(1, many(api.DoPass, 5)), api.LinkResult{N: 5})
	b.answers(t, far(1, only(api.DoAway)), api.LinkResult{})
	b.answers(t, injects(0, specimens.Bare(api.TypePing, api.FlagSYN, 0, 7)), api.LinkResult{})
	b.answers(t, cuts(0), api.LinkResult{})
	b.answers(t, connects(0), api.LinkResult{})
	b.again(t)
	b.answers(t, opens(), api.LinkResult{N: 3})
	b.answers(t, rounds(0), api.LinkResult{})
	begun(t, news(64, 2, small()), rounds(1<<20)).again(t)
}

// Link.End is looked at by neither, and isn't kept; nor is anything else that a Kind doesn't name.
func TestP32_1_WhatIsNotNamed(t *testing.T) {
	b := begun(t, news(1, 1, small()))
	plainly := begun(t, news(1, 1, small()))
	other := func(op api.PoolOp) {
		t.Helper()
		wild := full(op.Kind)
		wild.Cfg.Window, wild.Data, wild.Link.Data = -1, []byte("wild"), []byte("wilder")
		same(t, op, b.well(t, with(wild, op)), plainly.well(t, op))
	}
	for _, op := range []api.PoolOp{
		connects(0), opens(), writes(1, "ab"), rounds(2), farAccepts(0), farReads(0, 1, 2), farWrites(0, 1, "c"), rounds(2), reads(1, 1), near(0, only(api.DoPing)),
		near(0, only(api.DoStep)), near(0, many(api.DoSend, 40)), closes(1), injects(0), resets(1), cuts(0),
	} {
		other(op)
	}
	if !bytes.Equal(b.all[0].Bytes(), plainly.all[0].Bytes()) {
		t.Errorf("% x is kept, and not % x", b.all[0].Bytes(), plainly.all[0].Bytes())
	}
	b.again(t)
}

// Each call at which the pool fails: its record is kept.
func TestP32_1_CallsAtWhichThePoolFails(t *testing.T) {
	b := begun(t, news(1, 1, small()))
	b.failsKept(t, opens(), api.ErrNoConn)
	b.failsKept(t, connects(1), api.ErrRange)
	b.failsKept(t, connects(-1), api.ErrRange)
	b.failsKept(t, cuts(0), api.ErrNoConn)
	b.failsKept(t, cuts(1), api.ErrRange)
	b.failsKept(t, farAccepts(0), api.ErrNoConn)
	b.failsKept(t, near(0, only(api.DoPing)), api.ErrNoConn)
	b.well(t, connects(0))
	b.failsKept(t, connects(0), api.ErrLive)
	b.failsKept(t, writes(1, "a"), api.ErrHandle)
	b.failsKept(t, reads(0, 1), api.ErrHandle)
	b.failsKept(t, closes(-1), api.ErrHandle)
	b.failsKept(t, resets(math.MaxInt), api.ErrHandle)
	b.failsKept(t, farAccepts(0), api.ErrEmpty)
	b.failsKept(t, farWrites(0, 1, "x"), api.ErrNoStream)
	b.failsKept(t, far(0, only(api.DoCut)), api.ErrRange)
	b.failsKept(t, far(0, only(15)), api.ErrRange)
	b.failsKept(t, near(0, only(api.DoOpen)), api.ErrRange)
	b.failsKept(t, near(0, only(1<<32+api.DoPing)), api.ErrRange)
	b.failsKept(t, near(7, only(api.DoStep)), api.ErrRange)
	b.failsKept(t, rounds(-1), api.ErrRange)
	b.failsKept(t, rounds(1<<20+1), api.ErrRange)
	b.well(t, opens())
	b.failsKept(t, opens(), api.ErrLimit)
	b.failsKept(t, reads(1, -1), api.ErrRange)
	b.well(t, closes(1))
	b.failsKept(t, writes(1, "a"), api.ErrClosed)
	b.again(t)
	b.well(t, rounds(2))
	b.again(t)
}

// A call that fails changes the pool all the same: the ends of streams that it tells (F8), and a violation that it brings.
func TestP32_5_CallsThatFailAndTellAnEnd(t *testing.T) {
	begin := []api.PoolOp{news(1, 2, small()), connects(0), opens(), opens(), rounds(2), farAccepts(0), farAccepts(0), rounds(2)}
	for what, c := range map[string]struct {
		moves []api.PoolOp
		tells api.PoolOp
		want  error
	}{
		"the end of a quiet stream": {[]api.PoolOp{closes(1), farCloses(0, 1), rounds(3)}, reads(1, 9), api.ErrEOF},
		"a reset":                   {[]api.PoolOp{farResets(0, 1), rounds(3)}, writes(1, "x"), api.ErrReset},
		"the end behind a cut":      {[]api.PoolOp{farWrites(0, 1, "hi"), rounds(3), cuts(0), reads(1, 9)}, reads(1, 9), api.ErrCut},
		"a reset of the near end":   {[]api.PoolOp{resets(1), rounds(3)}, farReads(0, 1, 1), api.ErrReset},
		"a violation":               {nil, injects(0, specimens.Data(0, 77, "")), &api.Violation{Stream: 77, Why: api.ErrUnknown}},
	} {
		t.Log(what)
		b := begun(t, append(begin, c.moves...)...)
		b.again(t)
		b.failsKept(t, c.tells, c.want)
		b.again(t)
		for _, op := range []api.PoolOp{c.tells, writes(1, "a"), writes(2, "b"), rounds(5), opens(), farReads(0, 3, 9), reads(2, 9), rounds(3)} {
			b.do(t, op)
			b.tells(t)
		}
		b.again(t)
	}
}

// The edges of all fields, of all Kinds, at a pool with connections: no call panics, and all end.
func TestP1_DoAtTheEdges(t *testing.T) {
	begin := []api.PoolOp{news(2, 2, small()), connects(0), opens(), writes(1, "abc"), rounds(1), farAccepts(0), farWrites(0, 1, "xyz"), near(0, only(api.DoStep)), far(0, only(api.DoStep))}
	for kind := api.PoolKind(1); kind <= 11; kind++ {
		b := begun(t, begin...)
		for link := range api.LinkKind(15) {
			ops := atTheEdges(api.PoolOp{Kind: kind, H: 1, Link: api.LinkOp{Kind: link, ID: 1, N: 1}})
			for _, op := range ops {
				if kind != api.PoolRounds || op.N < 1000 || op.N > 1<<20 { // the others take too long
					b.do(t, op)
				}
			}
		}
		b.tells(t)
		b.again(t)
	}
}

// atTheEdges: the call with each of its fields at all edges.
func atTheEdges(op api.PoolOp) []api.PoolOp {
	var all []api.PoolOp
	for i := range named(&op) {
		for _, n := range edges {
			other := op
			set(named(&other)[i], n)
			all = append(all, other)
		}
	}
	return append(all, op)
}

func TestR7_ANilJournal(t *testing.T) {
	var j *journal.Journal
	for kind := api.PoolKind(-1); kind <= 13; kind++ {
		for _, op := range []api.PoolOp{{Kind: kind}, full(kind), news(1, 1, small()), {Kind: kind, Data: make([]byte, 1<<20)}} {
			if r, err := j.Do(op); !sentinels.Just(err, api.ErrNil) || r.ID != 0 || r.N != 0 || r.Data != nil || r.IDs != nil {
				t.Errorf("Do(%d): %v, %v", kind, r, err)
			}
		}
	}
	if len(j.Bytes()) != 0 || j.Pool() != nil {
		t.Errorf("a nil journal has %v, % x", j.Pool(), j.Bytes())
	}
}

// Why Replay ends: what Do failed with at the call of which nothing is kept, whatever stands behind it; else what Decode fails with; never what the pool's own calls fail with.
func TestP32_6_WhyReplayEnds(t *testing.T) {
	pool := news(1, 1, small())
	begin := []api.PoolOp{pool, connects(0), connects(0), opens(), opens(), writes(9, "x"), rounds(-1)} // some fail at the pool
	good := records(begin...)
	turned := record(opens())
	turned[8]++
	for what, c := range map[string]struct {
		b    []byte
		n    int
		want error
	}{
		"nothing":                             {nil, 0, nil},
		"good records":                        {good, len(good), nil},
		"calls that fail at the pool alone":   {records(pool, opens(), reads(1, 1)), len(records(pool, opens(), reads(1, 1))), nil},
		"a torn one":                          {append(bytes.Clone(good), 0), len(good), api.ErrShort},
		"a turned one":                        {append(bytes.Clone(good), turned...), len(good), api.ErrHistory},
		"a length that may not be":            {append(bytes.Clone(good), 0, 0, 0, 0), len(good), api.ErrLength},
		"a body that is none":                 {append(bytes.Clone(good), framed([]byte{12})...), len(good), api.ErrArgument},
		"a second pool":                       {append(bytes.Clone(good), records(pool, opens())...), len(good), api.ErrTwice},
		"a second pool that may not be":       {append(bytes.Clone(good), records(news(0, 0, small()))...), len(good), api.ErrTwice},
		"a second pool ahead of a turned one": {append(append(bytes.Clone(good), record(pool)...), turned...), len(good), api.ErrTwice},
		"a second pool, torn":                 {append(bytes.Clone(good), record(pool)[:20]...), len(good), api.ErrShort},
		"no pool":                             {records(opens(), pool, opens()), 0, api.ErrMissing},
		"no pool, and a torn one":             {append(record(rounds(1)), 0), 0, api.ErrMissing},
		"a pool that may not be":              {records(news(65, 1, small()), pool, opens()), 0, api.ErrRange},
		"a configuration that may not be":     {records(news(1, 1, api.Config{}), pool), 0, api.ErrConfig},
		"a turned one first":                  {append(bytes.Clone(turned), good...), 0, api.ErrHistory},
		"a torn one first":                    {good[:5], 0, api.ErrShort},
		"a pool alone":                        {record(pool), len(record(pool)), nil},
		"two pools alone":                     {records(pool, pool), len(record(pool)), api.ErrTwice},
	} {
		t.Log(what)
		x := mustReplay(t, c.b, c.n, c.want)
		if x.all[0].Pool() == nil {
			x.well(t, pool)
		}
		x.do(t, connects(0))
		x.do(t, opens())
		x.again(t)
	}
}

// Cut off anywhere, the journal is as it was behind its last whole record.
func TestP32_3_ATornJournal(t *testing.T) {
	ops := []api.PoolOp{
		news(2, 2, small()), connects(0), connects(1), opens(), opens(), writes(1, "abcd"), writes(2, "x"), rounds(2), farAccepts(0), farReads(0, 1, 3), closes(1), rounds(2),
		farReads(0, 1, 9), farReads(0, 1, 9), farCloses(0, 1), rounds(2), reads(1, 1), reads(1, 1), cuts(1), reads(2, 1), connects(1), opens(),
	}
	all := records(ops...)
	whole, end := 0, 0
	for cut := range len(all) + 1 {
		want := api.ErrShort
		if cut == len(records(ops[:min(whole+1, len(ops))]...)) && whole < len(ops) {
			whole, end = whole+1, cut
		}
		if cut == end {
			want = nil
		}
		x := mustReplay(t, all[:cut], end, want)
		if len(x.w.calls) != whole {
			t.Fatalf("%d calls of %d", len(x.w.calls), whole)
		}
	}
}

// P32.7: what is answered and what was handed in is the caller's: nothing of it is the journal's.
func TestP32_7_NothingIsShared(t *testing.T) {
	text := strings.Repeat("culvert", 100)
	cfg := small()
	cfg.Window, cfg.Stage, cfg.Frame, cfg.Out = 1000, 1000, 1000, 5000
	b := begun(t, news(1, 1, cfg), connects(0), opens(), writes(1, text)) // what was lent is written over
	j := b.all[0]
	before := j.Bytes()
	one, other := j.Bytes(), j.Bytes()
	specimens.Spoil(one)
	if !bytes.Equal(other, before) || !bytes.Equal(j.Bytes(), before) {
		t.Error("what Bytes answers is shared")
	}
	one = append(one[:0], "something else"...)
	b.well(t, rounds(2), farAccepts(0))
	b.answers(t, farReads(0, 1, 1000), api.LinkResult{Data: []byte(text)})
	if !bytes.Equal(other, before) || string(one) != "something else" {
		t.Error("what Bytes has answered is changed by later calls")
	}
	b.again(t)
	b.tells(t)
}
