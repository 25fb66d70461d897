package trace_test

import (
	"errors"
	"runtime"
	"slices"
	"strings"
	"sync"
	"testing"
	"weak"

	"culvert/api"
	"culvert/draws"
	"culvert/link"
	"culvert/trace"
)

// shortCalls: each call of the short runs, on two keys.
func shortCalls(t *testing.T) []func(b *both) {
	var calls []func(b *both)
	for _, key := range []int{1, -1} {
		calls = append(calls,
			func(b *both) { b.wrote(t, key, "ab") },
			func(b *both) { b.closed(t, key) },
			func(b *both) { b.gave(t, key, "a") },
			func(b *both) { b.gave(t, key, "ba") },
			func(b *both) { b.gave(t, key, "") },
			func(b *both) { b.ended(t, key) },
		)
	}
	return calls
}

func TestP24_1_EveryOrderOfFiveCalls(t *testing.T) {
	calls := shortCalls(t)
	for n := range 12 * 12 * 12 * 12 * 12 { // of twelve calls each five have a number
		b := made(t)
		for range 5 {
			calls[n%len(calls)](b)
			n /= len(calls)
			b.isOf(t, 1)
			b.isOf(t, -1)
		}
		b.tells(t)
	}
}

// kind is which of the four calls a turn makes.
type kind int

const (
	wrote kind = iota
	gave
	closed
	ended
)

// turn is one drawn call for one key.
type turn struct {
	kind  kind
	key   int
	bytes string
}

// drawn: the next turn; most Gaves are of what the rest begins with, some of them with more behind it or one byte wrong.
func drawn(row *draws.Draws, keys []int, most int, rest func(key int) string) turn {
	next := turn{key: keys[row.Below(len(keys))]}
	n := row.Below(1 + row.Below(most))
	switch which := row.Below(40); {
	case which < 16:
		begin := row.Below(2000)
		next.kind, next.bytes = wrote, counted(2000 + n)[begin:begin+n]
	case which < 36:
		left := rest(next.key)
		next.kind, next.bytes = gave, spoilt(row, left[:min(n, len(left))])
	case which < 37: // seldom: behind it little can be done with the key
		next.kind = closed
	default:
		next.kind = ended
	}
	return next
}

// spoilt: the bytes, as a rule; sometimes with one more, or one that is another.
func spoilt(row *draws.Draws, bytes string) string {
	switch row.Below(8) {
	case 0:
		return bytes + "x"
	case 1:
		if bytes != "" {
			wrong := []byte(bytes)
			wrong[row.Below(len(wrong))]++
			return string(wrong)
		}
	}
	return bytes
}

// play: the turn's call.
func (c turn) play(h *trace.History) error {
	switch c.kind {
	case wrote:
		return h.Wrote(c.key, []byte(c.bytes))
	case gave:
		return h.Gave(c.key, []byte(c.bytes))
	case closed:
		return h.Closed(c.key)
	}
	return h.Ended(c.key)
}

// on: the same call, beside the plain history.
func (c turn) on(t *testing.T, b *both) error {
	t.Helper()
	switch c.kind {
	case wrote:
		return b.wrote(t, c.key, c.bytes)
	case gave:
		return b.gave(t, c.key, c.bytes)
	case closed:
		return b.closed(t, c.key)
	}
	return b.ended(t, c.key)
}

// R9: two at once, neither of which hears of the other.
func TestP24_1_LongRunsOfTwo(t *testing.T) {
	for seed := range draws.Draws(60) {
		keys := manyKeys[seed.Below(10):][:1+seed.Below(20)]
		most := 2 + seed.Below(200)
		two := [2]*both{made(t), made(t)}
		for step := range 500 {
			b := two[seed.Below(2)]
			next := drawn(&seed, keys, most, func(key int) string {
				one, _ := b.p.find(key)
				return one.rest()
			})
			next.on(t, b)
			for _, each := range two {
				each.isOf(t, next.key)
				if step%25 == 0 {
					each.tells(t, keys...)
				}
			}
		}
	}
}

// sum is what was accepted of a key, gathered by who calls.
type sum struct {
	written, given string
	ended          bool
}

// What was read begins what was written at every moment, by the bytes that were handed in; of an ended key it is all, for good.
func TestP24_2_WhatWasReadIsABeginning(t *testing.T) {
	ends := 0
	for seed := range draws.Draws(150) {
		keys := manyKeys[:1+seed.Below(4)]
		h := trace.New()
		sums := map[int]*sum{}
		for _, key := range keys {
			sums[key] = &sum{}
		}
		for range 300 {
			next := drawn(&seed, keys, 12, func(key int) string { return string(h.Rest(key)) })
			before := *sums[next.key]
			sums[next.key].add(next, next.play(h))
			for key, s := range sums {
				past, _ := h.Past(key)
				if !strings.HasPrefix(s.written, s.given) || past.Written != len(s.written) || past.Read != len(s.given) {
					t.Fatalf("%q is read of %q, Past(%d): %v", s.given, s.written, key, past)
				}
				if string(h.Rest(key)) != s.written[len(s.given):] || past.Ended != s.ended || s.ended && s.given != s.written {
					t.Fatalf("Rest(%d): %q, with %q read of %q; Past: %v", key, h.Rest(key), s.given, s.written, past)
				}
			}
			if before.ended && before != *sums[next.key] {
				t.Fatalf("%d has ended, and then there is %q", next.key, next.bytes)
			}
		}
		for _, s := range sums {
			if s.ended {
				ends++
			}
		}
	}
	if ends < 50 {
		t.Errorf("only %d keys have ended in all runs", ends)
	}
}

// add: the turn's bytes, if it was accepted.
func (s *sum) add(c turn, err error) {
	switch {
	case err != nil:
	case c.kind == wrote:
		s.written += c.bytes
	case c.kind == gave:
		s.given += c.bytes
	case c.kind == ended:
		s.ended = true
	}
}

// A run of many keys is played once more for each key alone: it answers the same.
func TestP24_2_WhatIsDoneWithOneKeyHangsOnNoOther(t *testing.T) {
	for seed := range draws.Draws(40) {
		keys := manyKeys[seed.Below(12):][:2+seed.Below(8)]
		whole := trace.New()
		var run []turn
		var told []error
		for range 400 {
			next := drawn(&seed, keys, 20, func(key int) string { return string(whole.Rest(key)) })
			run = append(run, next)
			told = append(told, next.play(whole))
		}
		joined := ""
		for _, key := range keys {
			alone := trace.New()
			for i, c := range run {
				if c.key != key {
					continue
				}
				if err := c.play(alone); !errors.Is(err, told[i]) || (err == nil) != (told[i] == nil) {
					t.Fatalf("%q for %d alone: %v, among others: %v", c.bytes, key, err, told[i])
				}
			}
			if string(alone.Rest(key)) != string(whole.Rest(key)) {
				t.Fatalf("Rest(%d) alone: %q", key, alone.Rest(key))
			}
			joined += alone.Text()
		}
		if whole.Text() != joined {
			t.Fatalf("Text: %q, of each alone: %q", whole.Text(), joined)
		}
	}
}

// No answer changes another, however often and in whichever order they are asked.
func TestP24_1_AskingChangesNothing(t *testing.T) {
	b := made(t)
	for i, key := range manyKeys {
		b.wrote(t, key, counted(3*i))
		b.gave(t, key, counted(i))
		if i%3 == 0 {
			b.closed(t, key)
		}
	}
	want := b.x.Text()
	for range 5 {
		b.tells(t, manyKeys...)
		if b.x.Text() != want {
			t.Fatalf("Text: %q", b.x.Text())
		}
	}
}

// Byte by byte in and in one out, and the other way round: so many that it must not go through all of them each time.
func TestP24_3_ManyBytesOneByOne(t *testing.T) {
	all := []byte(counted(1 << 20))
	h := trace.New()
	for i := range all {
		if err := h.Wrote(1, all[i:i+1]); err != nil {
			t.Fatalf("Wrote at %d: %v", i, err)
		}
	}
	if err := h.Gave(1, all); err != nil {
		t.Fatalf("Gave of all: %v", err)
	}
	if err := h.Wrote(1, all); err != nil {
		t.Fatalf("Wrote of all: %v", err)
	}
	for i := range all {
		if err := h.Gave(1, all[i:i+1]); err != nil {
			t.Fatalf("Gave at %d: %v", i, err)
		}
	}
	if got := h.Text(); got != "1 written 2097152 read 2097152\n" {
		t.Errorf("Text: %q", got)
	}
}

func TestP24_1_ManyKeys(t *testing.T) {
	const many = 1 << 16
	h := trace.New()
	keys := make([]int, many)
	for i := range keys {
		keys[i] = i*2654435761 - 1<<46 // spread, and none comes twice
		if err := h.Wrote(keys[i], []byte{byte(i), byte(i >> 8)}); err != nil {
			t.Fatalf("Wrote(%d): %v", keys[i], err)
		}
	}
	for i, key := range keys {
		if err := h.Gave(key, []byte{byte(i)}); err != nil {
			t.Fatalf("Gave(%d): %v", key, err)
		}
		if rest := h.Rest(key); len(rest) != 1 || rest[0] != byte(i>>8) {
			t.Fatalf("Rest(%d): %x", key, rest)
		}
	}
	for range 3 { // a map's order is another each time
		if got := h.Keys(); !slices.Equal(got, keys) {
			t.Fatalf("Keys: %d of them", len(got))
		}
	}
	if n := strings.Count(h.Text(), " written 2 read 1\n"); n != many {
		t.Errorf("Text has %d such lines", n)
	}
}

// live: how many bytes the program has, behind a collection.
func live() int {
	runtime.GC()
	runtime.GC()
	var m runtime.MemStats
	runtime.ReadMemStats(&m)
	return int(m.HeapAlloc)
}

// What is kept goes with what is still to be read: not with what was read, nor with what was refused.
func TestP24_1_WhatWasReadIsKeptNoMore(t *testing.T) {
	const great = 32 << 20
	for _, c := range []struct {
		what string
		call func(h *trace.History)
	}{
		{"all is given at once", func(h *trace.History) { h.Wrote(1, make([]byte, great)); h.Gave(1, make([]byte, great)) }},
		{"all but a byte", func(h *trace.History) { h.Wrote(1, make([]byte, great)); h.Gave(1, make([]byte, great-1)) }},
		{"all but some, in pieces", func(h *trace.History) {
			h.Wrote(1, make([]byte, great))
			for len(h.Rest(1)) > 1<<20 {
				h.Gave(1, make([]byte, 1<<20))
			}
		}},
		{"a piece at a time", func(h *trace.History) {
			for range great / 1024 {
				h.Wrote(1, make([]byte, 1024))
				h.Gave(1, make([]byte, 1024))
			}
		}},
		{"behind a lead of one piece", func(h *trace.History) {
			h.Wrote(1, make([]byte, 1024))
			for range great / 1024 {
				h.Wrote(1, make([]byte, 1024))
				h.Gave(1, make([]byte, 1024))
			}
		}},
		{"Gaves that are refused", func(h *trace.History) {
			for key := range 1 << 17 {
				h.Gave(key, []byte("a"))
				h.Ended(key)
			}
		}},
		{"Wrotes that are refused", func(h *trace.History) { h.Closed(1); h.Wrote(1, make([]byte, great)) }},
	} {
		before := live()
		h := trace.New()
		c.call(h)
		if more := live() - before; more > great/8 {
			t.Errorf("%s: %d bytes are kept, and the rest has %d", c.what, more, len(h.Rest(1)))
		}
		runtime.KeepAlive(h)
	}
}

// handIn: weak pointers to what was handed in and to what was answered.
func handIn(h *trace.History) []weak.Pointer[byte] {
	in, out := []byte(counted(300)), []byte(counted(100))
	h.Wrote(1, in)
	h.Gave(1, out)
	rest := h.Rest(1)
	return []weak.Pointer[byte]{weak.Make(&in[0]), weak.Make(&out[0]), weak.Make(&rest[0])}
}

func TestP24_4_NeitherWhatWasHandedInNorAnswersAreKeptAlive(t *testing.T) {
	h := trace.New()
	for i, one := range handIn(h) {
		runtime.GC()
		if one.Value() != nil {
			t.Errorf("%d of what was handed in and answered is kept", i)
		}
	}
	if n := len(h.Rest(1)); n != 200 {
		t.Errorf("the rest has %d bytes", n)
	}
	runtime.KeepAlive(h)
}

// R9: what is told hangs on nothing but the calls, not on the order in which a map is gone through.
func TestR9_HistoriesAtTheSameTime(t *testing.T) {
	var all sync.WaitGroup
	told := make([]string, 8)
	for i := range told {
		all.Go(func() {
			h := trace.New()
			row := draws.Draws(i % 2)
			for range 1000 {
				next := drawn(&row, manyKeys, 9, func(key int) string { return string(h.Rest(key)) })
				if next.play(h) != nil {
					told[i] += "!"
				}
				told[i] += string(h.Rest(next.key))
			}
			told[i] += h.Text()
		})
	}
	all.Wait()
	for i, text := range told {
		if text == "" || text != told[i%2] {
			t.Errorf("number %d tells something else", i)
		}
	}
	if told[0] == told[1] {
		t.Error("both rows make the same")
	}
}

// P3: the history judges a connection between lawful ends, both directions of one stream, whatever is written, read and moved.
func TestP3_AHistoryRefusesNothingThatAConnectionTells(t *testing.T) {
	cfg := api.Config{Window: 4, Stage: 8, Frame: 3, Streams: 4, Backlog: 2, Pings: 1, Out: 64}
	for seed := range draws.Draws(60) {
		l, err := link.New(cfg)
		if err != nil {
			t.Fatal(err)
		}
		l.Do(api.LinkOp{Kind: api.DoOpen, End: 0})
		l.Round()
		l.Do(api.LinkOp{Kind: api.DoAccept, End: 1})
		h := trace.New()
		for step := range 600 {
			end := seed.Below(2)
			watched(t, h, l, api.LinkOp{Kind: api.DoWrite, End: end, ID: 1, Data: []byte(counted(step + 9)[step : step+seed.Below(10)])})
			watched(t, h, l, api.LinkOp{Kind: api.DoRead, End: seed.Below(2), ID: 1, N: 1 + seed.Below(5)})
			l.Do(api.LinkOp{Kind: api.DoStep, End: end})
			l.Do(api.LinkOp{Kind: api.DoSend, End: end, N: seed.Below(30)})
			l.Do(api.LinkOp{Kind: api.DoPass, End: end, N: seed.Below(30)})
			if step == 400 || step == 401 {
				watched(t, h, l, api.LinkOp{Kind: api.DoClose, End: step % 2, ID: 1})
			}
		}
		for range 60 {
			l.Round()
			for end := range 2 {
				watched(t, h, l, api.LinkOp{Kind: api.DoRead, End: end, ID: 1, N: 9})
			}
		}
		for key := range 2 {
			if past, ok := h.Past(key); !ok || !past.Ended || past.Read != past.Written || past.Written < 50 {
				t.Fatalf("row %d, from end %d: %v, %v", seed, key, past, ok)
			}
		}
	}
}

// watched: the operation, and what it tells written down: the key is the end from which the bytes come.
func watched(t *testing.T, h *trace.History, l *link.Link, op api.LinkOp) {
	t.Helper()
	got, err := l.Do(op)
	var refused error
	switch {
	case op.Kind == api.DoWrite && err == nil:
		refused = h.Wrote(op.End, op.Data[:got.N])
	case op.Kind == api.DoClose && err == nil:
		refused = h.Closed(op.End)
	case op.Kind == api.DoRead && err == nil:
		refused = h.Gave(1-op.End, got.Data)
	case op.Kind == api.DoRead && errors.Is(err, api.ErrEOF):
		refused = h.Ended(1 - op.End)
	}
	if refused != nil {
		t.Fatalf("%v: %v, and the history says %v of %q", op, got, refused, h.Text())
	}
}
