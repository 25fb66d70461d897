package stream_test

import (
	"math"
	"strings"
	"testing"

	"culvert/api"
	"culvert/draws"
	"culvert/sentinels"
	"culvert/stream"
)

// small is the configuration of the chapter's examples.
var small = api.Config{Window: 4, Stage: 6, Frame: 3}

// letters: n bytes, of which none is as the one beside it.
func letters(n int) string {
	return strings.Repeat("abcdefghijklmnopqrstuvwxyz", n/26+1)[:n]
}

func TestP10_1_New(t *testing.T) {
	for _, id := range []uint32{1, 2, 3, 255, 65536, 1 << 31, math.MaxUint32} {
		for _, cfg := range []api.Config{
			small,
			{Window: 1, Stage: 1, Frame: 1},
			{Window: api.MaxWindow, Stage: 1, Frame: 1},
			{Window: 1, Stage: api.MaxStage, Frame: 1},
			{Window: 1, Stage: 1, Frame: api.MaxFrame},
			{Window: api.MaxWindow, Stage: api.MaxStage, Frame: api.MaxFrame},
		} {
			mine := made(t, id, cfg, true)
			sees(t, mine, api.StreamView{ID: id, State: api.SynSent, Mine: true, Credit: uint32(cfg.Window), Left: cfg.Window})
			looks(t, mine, false, false, false, 0)
			theirs := made(t, id, cfg, false)
			sees(t, theirs, api.StreamView{ID: id, State: api.SynRecv, Credit: uint32(cfg.Window), Left: cfg.Window})
			looks(t, theirs, false, false, false, 0)
		}
	}
}

// The fields that a stream doesn't look at may be anything.
func TestP10_1_NewLooksAtThreeFieldsAlone(t *testing.T) {
	for _, other := range []int{math.MinInt, -1, 0, 1, 1 << 40, math.MaxInt} {
		cfg := api.Config{Window: 4, Stage: 6, Frame: 3, Streams: other, Backlog: other, Pings: other, Out: other, Skip: other}
		b := newBoth(t, 1, cfg, true)
		b.write(t, "abcdefgh")
		b.frame(t)
	}
}

// beside: what isn't from 1 to most; some of it is if it is cut to fewer bits.
func beside(most int) []int {
	return []int{
		0, -1, -2, -most, 1 - 1<<16, 1 - 1<<32, -1 << 31, -1 << 32, math.MinInt, math.MinInt + 1,
		most + 1, most + 2, 1 << 31, 1<<31 + 1, 1 << 32, 1<<32 + 1, 1<<40 + 1, math.MaxInt - 1, math.MaxInt,
	}
}

func TestP10_1_NewRefuses(t *testing.T) {
	refused := []api.Config{{}}
	for _, n := range beside(api.MaxWindow) {
		refused = append(refused, api.Config{Window: n, Stage: 6, Frame: 3})
	}
	for _, n := range beside(api.MaxStage) {
		refused = append(refused, api.Config{Window: 4, Stage: n, Frame: 3})
	}
	for _, n := range beside(api.MaxFrame) {
		refused = append(refused, api.Config{Window: 4, Stage: 6, Frame: n})
	}
	for _, cfg := range refused {
		for _, mine := range []bool{false, true} {
			for id, want := range map[uint32]error{0: api.ErrRange, 1: api.ErrConfig, math.MaxUint32: api.ErrConfig} {
				if s, err := stream.New(id, cfg, mine); s != nil || !sentinels.Just(err, want) {
					t.Errorf("New(%d, %+v, %v): %v, %v, want %v", id, cfg, mine, s, err, want)
				}
			}
		}
	}
	if s, err := stream.New(0, small, true); s != nil || !sentinels.Just(err, api.ErrRange) {
		t.Errorf("New(0, ..): %v, %v", s, err)
	}
}

// The greatest windows and stages cost nothing ahead.
func TestP10_1_GreatStreamsCostNothingAhead(t *testing.T) {
	cfg := api.Config{Window: api.MaxWindow, Stage: api.MaxStage, Frame: api.MaxFrame}
	var all []*stream.Stream
	for id := range 20000 {
		all = append(all, made(t, uint32(id+1), cfg, id%2 == 0))
	}
	for _, s := range all {
		writes(t, s, "ab", 2, nil)
		fails(t, "Arrive", s.Arrive([]byte("cd"), false), nil)
		looks(t, s, s.View().Mine, false, false, 4)
	}
}

// The chapter's table, in its order.
func TestP10_1_TheChaptersTable(t *testing.T) {
	s := made(t, 5, small, true)
	writes(t, s, "abcdefgh", 6, nil)
	frames(t, s, 5, 0, "abc")
	frames(t, s, 5, 0, "d")
	noFrame(t, s)
	fails(t, "Grant(5)", s.Grant(5, false), api.ErrCredit)
	fails(t, "Grant(2)", s.Grant(2, false), nil)
	fails(t, "Close", s.Close(), nil)
	writes(t, s, "x", 0, api.ErrClosed)
	frames(t, s, 5, api.FlagFIN, "ef")
	sees(t, s, api.StreamView{ID: 5, State: api.LocalClosed, Mine: true, Left: 4, Closing: true})
	fails(t, "Grant(99)", s.Grant(99, false), nil)
	fails(t, "Arrive(xyzw5)", s.Arrive([]byte("xyzw5"), false), api.ErrWindow)
	fails(t, "Arrive(xyz)", s.Arrive([]byte("xyz"), false), nil)
	reads(t, s, 1, "x", 0, nil)
	reads(t, s, 9, "yz", 3, nil)
	fails(t, "Arrive(w)", s.Arrive([]byte("w"), true), nil)
	looks(t, s, false, true, false, 1)
	reads(t, s, 9, "w", 0, nil)
	reads(t, s, 0, "", 0, nil)
	looks(t, s, false, true, false, 0)
	reads(t, s, 9, "", 0, api.ErrEOF)
	looks(t, s, false, true, true, 0)
	reads(t, s, 9, "", 0, api.ErrEOF)
}

// The streams t, u and v of the chapter's examples.
func TestP10_1_TheChaptersOtherExamples(t *testing.T) {
	s := made(t, 2, small, false)
	writes(t, s, "a", 1, nil)
	noFrame(t, s)
	fails(t, "Close", s.Close(), nil)
	fails(t, "Accept", s.Accept(), nil)
	fails(t, "Accept", s.Accept(), api.ErrState)
	frames(t, s, 2, api.FlagFIN, "a")
	s.Reset()
	reads(t, s, 1, "", 0, api.ErrReset)
	looks(t, s, false, false, true, 0)
	s.Cut()
	sees(t, s, api.StreamView{ID: 2, State: api.Reset, Accepted: true, Closing: true})

	u := made(t, 1, small, true)
	fails(t, "Arrive", u.Arrive([]byte("ab"), true), nil)
	u.Cut()
	reads(t, u, 1, "a", 0, nil)
	reads(t, u, 1, "b", 0, nil)
	reads(t, u, 1, "", 0, api.ErrEOF)
	writes(t, u, "a", 0, api.ErrCut)

	v := made(t, 3, small, true)
	fails(t, "Close", v.Close(), nil)
	frames(t, v, 3, api.FlagFIN, "")
	noFrame(t, v)
}

// call is one that the tests of all states make.
type call struct {
	name string
	make func(*testing.T, *both)
}

// calls: of each kind, those that differ at a window of 3, a stage of 3 and frames of 2.
func calls() []call {
	all := []call{
		{"Close", func(t *testing.T, b *both) { b.close(t) }},
		{"Accept", func(t *testing.T, b *both) { b.accept(t) }},
		{"Frame", func(t *testing.T, b *both) { b.frame(t) }},
		{"Reset", func(t *testing.T, b *both) { b.reset(t) }},
		{"Cut", func(t *testing.T, b *both) { b.cut(t) }},
	}
	for _, p := range []string{"", "a", "aaa", "aaaa"} {
		all = append(all, call{"Write " + p, func(t *testing.T, b *both) { b.write(t, p) }})
	}
	for _, n := range []int{math.MinInt, -1, 0, 1, 2, math.MaxInt} {
		all = append(all, call{"Read", func(t *testing.T, b *both) { b.read(t, n) }})
	}
	for _, fin := range []bool{false, true} {
		for _, p := range []string{"", "a", "aaa", "aaaa"} {
			all = append(all, call{"Arrive " + p, func(t *testing.T, b *both) { b.arrive(t, p, fin) }})
		}
		for _, delta := range []uint32{0, 1, 3, 4, 1 << 31, math.MaxUint32} {
			all = append(all, call{"Grant", func(t *testing.T, b *both) { b.grant(t, delta, fin) }})
		}
	}
	return all
}

// way is a state that can be come to, and by which calls.
type way struct {
	at plain
	by []call
}

// walk: a stream of that configuration, brought there.
func (w way) walk(t *testing.T, cfg api.Config) *both {
	t.Helper()
	b := newBoth(t, w.at.id, cfg, w.at.mine)
	for _, c := range w.by {
		c.make(t, b)
	}
	return b
}

// Each call at each state that a stream of a small configuration can come to. All bytes are the same, so that the states come to an end.
func TestP10_1_EachCallAtEachState(t *testing.T) {
	cfg := api.Config{Window: 3, Stage: 3, Frame: 2}
	for _, mine := range []bool{false, true} {
		first := newPlain(7, cfg, mine)
		seen := map[plain]int{first: 0}
		for todo := []way{{at: first}}; len(todo) > 0; todo = todo[1:] {
			w := todo[0]
			for _, c := range calls() {
				b := w.walk(t, cfg)
				if b.p != w.at {
					t.Fatalf("come to %+v, not %+v", b.p, w.at)
				}
				c.make(t, b)
				if _, ok := seen[b.p]; !ok {
					seen[b.p] = len(w.by) + 1
					todo = append(todo, way{b.p, append(w.by[:len(w.by):len(w.by)], c)})
				}
			}
		}
		if len(seen) < 500 {
			t.Errorf("only %d states", len(seen))
		}
	}
}

// Every order of up to four of some calls, with bytes that can be told apart.
func TestP10_1_EachOrderOfAFewCalls(t *testing.T) {
	some := []call{
		{"Write", func(t *testing.T, b *both) { b.write(t, "abcd") }},
		{"Close", func(t *testing.T, b *both) { b.close(t) }},
		{"Accept", func(t *testing.T, b *both) { b.accept(t) }},
		{"Frame", func(t *testing.T, b *both) { b.frame(t) }},
		{"Arrive", func(t *testing.T, b *both) { b.arrive(t, "xy", false) }},
		{"Arrive with FIN", func(t *testing.T, b *both) { b.arrive(t, "z", true) }},
		{"Grant", func(t *testing.T, b *both) { b.grant(t, 1, false) }},
		{"Grant with FIN", func(t *testing.T, b *both) { b.grant(t, 2, true) }},
		{"Read 1", func(t *testing.T, b *both) { b.read(t, 1) }},
		{"Read 9", func(t *testing.T, b *both) { b.read(t, 9) }},
		{"Reset", func(t *testing.T, b *both) { b.reset(t) }},
		{"Cut", func(t *testing.T, b *both) { b.cut(t) }},
	}
	cfg := api.Config{Window: 3, Stage: 3, Frame: 2}
	n := len(some)
	for order := range n * n * n * n {
		for _, mine := range []bool{false, true} {
			b := newBoth(t, 7, cfg, mine)
			for rest, i := order, 0; i < 4; rest, i = rest/n, i+1 {
				some[rest%n].make(t, b)
			}
		}
	}
}

// Of several errors the first that the chapter names is told.
func TestP10_1_TheFirstErrorIsTold(t *testing.T) {
	for bits := range 32 {
		has := func(bit int) bool { return bits&(1<<bit) != 0 }
		s := made(t, 1, small, has(0))
		var shut, lost, read, told error
		if has(1) {
			fails(t, "Accept", s.Accept(), nil)
			lost = api.ErrState
		}
		if has(2) {
			fails(t, "Close", s.Close(), nil)
			shut = api.ErrClosed
		}
		if has(3) {
			s.Cut()
			shut, lost, read = api.ErrCut, api.ErrCut, api.ErrCut
		}
		if has(4) {
			s.Reset()
			shut, lost, read, told = api.ErrReset, api.ErrReset, api.ErrReset, api.ErrReset
		}
		for range 2 {
			reads(t, s, -1, "", 0, api.ErrRange)
			reads(t, s, math.MinInt, "", 0, api.ErrRange)
			reads(t, s, 0, "", 0, told)
			reads(t, s, 1, "", 0, read)
			if shut != nil {
				writes(t, s, "a", 0, shut)
				writes(t, s, "", 0, shut)
				fails(t, "Close", s.Close(), shut)
			}
			if lost != nil {
				fails(t, "Accept", s.Accept(), lost)
			}
		}
	}
}

// A reset and a cut in both orders, with bytes staged and unread.
func TestP10_1_ResetAndCut(t *testing.T) {
	filled := func() *both {
		b := newBoth(t, 9, small, true)
		b.write(t, "abcdef")
		b.arrive(t, "xyz", false)
		b.read(t, 1)
		return b
	}
	cut := filled()
	cut.cut(t)
	sees(t, cut.s, api.StreamView{ID: 9, State: api.SynSent, Mine: true, Unread: 2})
	cut.reset(t)
	sees(t, cut.s, api.StreamView{ID: 9, State: api.Reset, Mine: true})
	reads(t, cut.s, 1, "", 0, api.ErrReset)
	writes(t, cut.s, "a", 0, api.ErrReset)
	looks(t, cut.s, false, false, true, 0)
	reset := filled()
	reset.reset(t)
	reset.cut(t)
	sees(t, reset.s, api.StreamView{ID: 9, State: api.Reset, Mine: true})
	looks(t, reset.s, false, false, true, 0)
	reset.reset(t)
	reset.cut(t)
}

// The end that was told stays told, and only a Read of some bytes tells it.
func TestP10_1_TheEndStaysTold(t *testing.T) {
	for _, behind := range []call{
		{"Reset", func(t *testing.T, b *both) { b.reset(t) }},
		{"Cut", func(t *testing.T, b *both) { b.cut(t) }},
		{"Arrive", func(t *testing.T, b *both) { b.arrive(t, "abcdefgh", true) }},
		{"Grant", func(t *testing.T, b *both) { b.grant(t, 0, true) }},
		{"Accept", func(t *testing.T, b *both) { b.accept(t) }},
		{"Close", func(t *testing.T, b *both) { b.close(t) }},
	} {
		b := newBoth(t, 9, small, true)
		b.arrive(t, "", true)
		b.read(t, 0)
		b.read(t, -1)
		if b.s.View().Ended {
			t.Fatal("told ahead of any Read of bytes")
		}
		b.read(t, 1)
		behind.make(t, b)
		if !b.s.View().Ended {
			t.Errorf("behind %s: not told any more", behind.name)
		}
	}
	cut := made(t, 9, small, true)
	cut.Cut()
	reads(t, cut, 1, "", 0, api.ErrCut)
	if cut.View().Ended || cut.Done() {
		t.Error("ErrCut isn't the end of the stream")
	}
}

// A whole stage and frames of the greatest size.
func TestP10_2_TheGreatestStageAndFrames(t *testing.T) {
	all := letters(api.MaxStage + 1)
	cfg := api.Config{Window: api.MaxWindow, Stage: api.MaxStage, Frame: api.MaxFrame}
	s := made(t, 1, cfg, true)
	writes(t, s, all, api.MaxStage, nil)
	writes(t, s, "x", 0, nil)
	looks(t, s, true, false, false, api.MaxStage)
	fails(t, "Close", s.Close(), nil)
	const n = api.MaxStage / api.MaxFrame
	for i := range n - 1 {
		frames(t, s, 1, 0, all[i*api.MaxFrame:(i+1)*api.MaxFrame])
	}
	sees(t, s, api.StreamView{ID: 1, State: api.SynSent, Mine: true, Staged: api.MaxFrame, Credit: api.MaxWindow - (n-1)*api.MaxFrame, Left: api.MaxWindow, Closing: true})
	frames(t, s, 1, api.FlagFIN, all[(n-1)*api.MaxFrame:n*api.MaxFrame])
	noFrame(t, s)
}

// The payload is the least of what is staged, the credit and the frame.
func TestP10_2_ThePayloadIsTheLeastOfThree(t *testing.T) {
	for window := 1; window <= 6; window++ {
		for frame := 1; frame <= 6; frame++ {
			for staged := 0; staged <= 6; staged++ {
				for _, closed := range []bool{false, true} {
					s := made(t, 4, api.Config{Window: window, Stage: 6, Frame: frame}, true)
					writes(t, s, letters(staged), staged, nil)
					if closed {
						fails(t, "Close", s.Close(), nil)
					}
					k := min(window, frame, staged)
					switch {
					case closed && k == staged:
						frames(t, s, 4, api.FlagFIN, letters(k))
						noFrame(t, s)
					case staged == 0:
						noFrame(t, s)
					default:
						frames(t, s, 4, 0, letters(k))
					}
				}
			}
		}
	}
}

// Grants at the edges of 31 and 32 bits.
func TestP10_2_NoCreditAboveTheWindow(t *testing.T) {
	for _, window := range []int{1, 2, 4, 1 << 30, api.MaxWindow - 1, api.MaxWindow} {
		b := newBoth(t, 1, api.Config{Window: window, Stage: 9, Frame: 9}, true)
		for _, delta := range []uint32{1, 2, 1 << 30, 1 << 31, math.MaxUint32 - 1, math.MaxUint32} {
			fails(t, "Grant", b.grant(t, delta, true), api.ErrCredit)
		}
		fails(t, "Grant(0)", b.grant(t, 0, false), nil)
		b.write(t, "a")
		b.frame(t)
		for _, delta := range []uint32{2, 1<<31 + 1, math.MaxUint32} {
			fails(t, "Grant", b.grant(t, delta, true), api.ErrCredit)
		}
		fails(t, "Grant(1)", b.grant(t, 1, false), nil)
		sees(t, b.s, api.StreamView{ID: 1, State: api.SynSent, Mine: true, Credit: uint32(window), Left: window})
	}
}

// Behind this end's last frame every delta is passed over, and FIN still counts.
func TestP10_1_GrantBehindTheLastFrame(t *testing.T) {
	for _, delta := range []uint32{0, 1, 4, 5, 99, 1 << 31, math.MaxUint32} {
		b := newBoth(t, 3, small, true)
		b.close(t)
		b.frame(t)
		fails(t, "Grant", b.grant(t, delta, false), nil)
		sees(t, b.s, api.StreamView{ID: 3, State: api.LocalClosed, Mine: true, Left: 4, Closing: true})
		fails(t, "Grant", b.grant(t, delta, true), nil)
		sees(t, b.s, api.StreamView{ID: 3, State: api.Closed, Mine: true, Closing: true})
		looks(t, b.s, false, true, false, 0)
	}
}

// Behind the other end's last frame a delta counts still.
func TestP10_1_GrantBehindTheOtherEndsLastFrame(t *testing.T) {
	b := newBoth(t, 3, small, true)
	b.write(t, "abcd")
	b.frame(t)
	b.arrive(t, "x", true)
	fails(t, "Grant(4)", b.grant(t, 4, true), api.ErrCredit)
	fails(t, "Grant(3)", b.grant(t, 3, true), nil)
	sees(t, b.s, api.StreamView{ID: 3, State: api.RemoteClosed, Mine: true, Staged: 1, Credit: 4, Unread: 1})
}

// The whole's second, third and fourth example, of one end's stream.
func TestF4_F6_TheWholesExamples(t *testing.T) {
	cfg := api.Config{Window: 4, Stage: 8, Frame: 3}
	here, there := made(t, 1, cfg, true), made(t, 1, cfg, false)
	writes(t, here, "abcdefghij", 8, nil)
	frames(t, here, 1, 0, "abc")
	frames(t, here, 1, 0, "d")
	noFrame(t, here)
	fails(t, "Arrive", there.Arrive([]byte("abc"), false), nil)
	fails(t, "Arrive", there.Arrive([]byte("d"), false), nil)
	reads(t, there, 1, "a", 0, nil)
	reads(t, there, 2, "bc", 3, nil)
	fails(t, "Grant", here.Grant(3, false), nil)
	frames(t, here, 1, 0, "efg")
	noFrame(t, here)

	for window, deltas := range map[int][]uint32{1: {1}, 2: {1, 1}, 3: {0, 2, 0}, 4: {0, 2, 0, 2}, 5: {0, 0, 3, 0, 0}, 6: {0, 0, 3, 0, 0, 3}} {
		s := made(t, 1, api.Config{Window: window, Stage: 8, Frame: 3}, true)
		fails(t, "Arrive", s.Arrive([]byte("abcdef")[:window], false), nil)
		for i, delta := range deltas {
			reads(t, s, 1, "abcdef"[i:i+1], delta, nil)
		}
	}

	short := made(t, 1, cfg, true)
	writes(t, short, "ab", 2, nil)
	fails(t, "Close", short.Close(), nil)
	frames(t, short, 1, api.FlagFIN, "ab")
	spent := made(t, 1, cfg, true)
	writes(t, spent, "abcd", 4, nil)
	frames(t, spent, 1, 0, "abc")
	frames(t, spent, 1, 0, "d")
	fails(t, "Close", spent.Close(), nil)
	sees(t, spent, api.StreamView{ID: 1, State: api.SynSent, Mine: true, Left: 4, Closing: true})
	frames(t, spent, 1, api.FlagFIN, "")
	noFrame(t, spent)
}

// Without credit the last byte waits, and the last frame with it.
func TestF6_NoLastFrameAheadOfTheLastByte(t *testing.T) {
	s := made(t, 1, api.Config{Window: 2, Stage: 8, Frame: 3}, true)
	writes(t, s, "abc", 3, nil)
	fails(t, "Close", s.Close(), nil)
	frames(t, s, 1, 0, "ab")
	noFrame(t, s)
	fails(t, "Grant", s.Grant(1, false), nil)
	frames(t, s, 1, api.FlagFIN, "c")
	noFrame(t, s)
}

// The whole's eighth example.
func TestF7_BehindACutWhatIsUnreadCanBeRead(t *testing.T) {
	for fin, want := range map[bool]error{false: api.ErrCut, true: api.ErrEOF} {
		s := made(t, 1, small, true)
		writes(t, s, "lost", 4, nil)
		fails(t, "Arrive", s.Arrive([]byte("hi"), fin), nil)
		s.Cut()
		looks(t, s, false, false, false, 2)
		reads(t, s, 9, "hi", 0, nil)
		looks(t, s, false, false, false, 0)
		for range 3 {
			reads(t, s, 9, "", 0, want)
			reads(t, s, 0, "", 0, nil)
			looks(t, s, false, false, fin, 0)
		}
	}
}

// Behind the end nothing counts that comes, however much it is.
func TestF2_WhatIsPassedOver(t *testing.T) {
	for _, end := range []call{
		{"last frame", func(t *testing.T, b *both) { b.arrive(t, "c", true) }},
		{"last Window", func(t *testing.T, b *both) { b.grant(t, 0, true) }},
		{"Reset", func(t *testing.T, b *both) { b.reset(t) }},
		{"Cut", func(t *testing.T, b *both) { b.cut(t) }},
	} {
		b := newBoth(t, 1, small, true)
		b.arrive(t, "ab", false)
		end.make(t, b)
		view := b.s.View()
		for _, data := range []string{"", "a", "abcd", "abcde", letters(100000)} {
			for _, fin := range []bool{false, true} {
				fails(t, "Arrive behind "+end.name, b.arrive(t, data, fin), nil)
				sees(t, b.s, view)
			}
		}
	}
}

// A direction's run by itself: what the frames bore and what was granted, held against what Writes took.
func TestP10_2_TheFramesBearWhatWasTaken(t *testing.T) {
	row := draws.Draws(102)
	for range 300 {
		cfg := api.Config{Window: 1 + row.Below(20), Stage: 1 + row.Below(20), Frame: 1 + row.Below(12)}
		s := made(t, 8, cfg, row.Below(2) == 0)
		var taken, bore string
		var granted int
		closed, last := false, false
		if !s.View().Mine {
			noFrame(t, s)
			fails(t, "Accept", s.Accept(), nil)
		}
		for turns := 0; !last; turns++ {
			if turns == 100000 {
				t.Fatalf("no last frame: %+v", s.View())
			}
			switch row.Below(8) {
			case 0, 1, 2:
				p := letters(200)[len(taken)%26:][:row.Below(25)]
				n, err := s.Write([]byte(p))
				if closed != (err != nil) || n < 0 || n > len(p) {
					t.Fatalf("Write: %d, %v", n, err)
				}
				taken += p[:n]
			case 3, 4, 5:
				f, ok := s.Frame()
				last = f.Head.Flags == api.FlagFIN
				bore += string(f.Data)
				if int(f.Head.Length) != len(f.Data) || len(f.Data) > cfg.Frame || ok != (last || len(f.Data) > 0) {
					t.Fatalf("Frame: %+v, %v", f, ok)
				}
			case 6:
				delta := row.Below(cfg.Window + 2)
				fits := cfg.Window-len(bore)+granted+delta <= cfg.Window
				if err := s.Grant(uint32(delta), false); (err == nil) != fits {
					t.Fatalf("Grant(%d): %v", delta, err)
				}
				if fits {
					granted += delta
				}
			default:
				if len(taken) > 100 && s.Close() == nil {
					closed = true
				}
			}
			if credit := int(s.View().Credit); !last && credit != cfg.Window-len(bore)+granted || credit > cfg.Window {
				t.Fatalf("the credit is %d of %d: %d bore, %d granted", credit, cfg.Window, len(bore), granted)
			}
			if !strings.HasPrefix(taken, bore) || last && (bore != taken || !closed) {
				t.Fatalf("bore %q of %q, last %v, closed %v", bore, taken, last, closed)
			}
		}
		noFrame(t, s)
	}
}

// The other direction's run: what Reads gave, held against what Arrives brought.
func TestP10_3_ReadsGiveWhatArrivesBrought(t *testing.T) {
	row := draws.Draws(103)
	for range 300 {
		cfg := api.Config{Window: 1 + row.Below(30), Stage: 1, Frame: 1}
		s := made(t, 8, cfg, row.Below(2) == 0)
		var brought, gave string
		var granted int
		last, end := false, false
		for turns := 0; !end; turns++ {
			if turns == 100000 {
				t.Fatalf("no end: %+v", s.View())
			}
			if row.Below(2) == 0 {
				data := letters(200)[len(brought)%26:][:row.Below(cfg.Window+2)]
				fin := len(brought) > 200 && row.Below(4) == 0
				fits := len(brought)+len(data) <= cfg.Window+granted
				if err := s.Arrive([]byte(data), fin); (err == nil) != (fits || last) {
					t.Fatalf("Arrive of %d: %v, where %d came and %d were granted", len(data), err, len(brought), granted)
				}
				if fits && !last {
					brought += data
					last = fin
				}
			} else {
				n := 1 + row.Below(12)
				data, delta, err := s.Read(n)
				end = sentinels.Just(err, api.ErrEOF)
				if err != nil && !end || len(data) > n || end && len(data) > 0 || !end && len(data) == 0 && gave != brought || last && delta != 0 {
					t.Fatalf("Read(%d): %q, %d, %v", n, data, delta, err)
				}
				gave += string(data)
				granted += int(delta)
			}
			if !strings.HasPrefix(brought, gave) || end && (gave != brought || !last) {
				t.Fatalf("gave %q of %q, last %v, end %v", gave, brought, last, end)
			}
			v := s.View()
			if sum := v.Unread + v.Left + v.Owed; sum > cfg.Window || !last && sum != cfg.Window || v.Unread != len(brought)-len(gave) {
				t.Fatalf("%+v: not the window %d", v, cfg.Window)
			}
			if !last && (v.Left != cfg.Window+granted-len(brought) || v.Owed != len(gave)-granted) {
				t.Fatalf("%+v: %d brought, %d read, %d granted", v, len(brought), len(gave), granted)
			}
		}
	}
}
