package stream_test

import (
	"math"
	"runtime"
	"strings"
	"sync"
	"testing"
	"weak"

	"culvert/api"
	"culvert/draws"
	"culvert/specimens"
	"culvert/stream"
)

// end is a stream with what is under way to it, and what its user has done.
type end struct {
	s       *stream.Stream
	frames  []api.Frame // the other end's, in their order
	grants  []uint32    // of the other end's Reads
	taken   string
	gave    string
	closed  bool
	lastOut bool
	told    bool
}

// pair is one stream at both of its ends.
type pair struct {
	cfg  api.Config
	ends [2]*end
}

func newPair(t *testing.T, cfg api.Config) *pair {
	t.Helper()
	return &pair{cfg, [2]*end{{s: made(t, 3, cfg, true)}, {s: made(t, 3, cfg, false)}}}
}

// write: some bytes, which can be told apart from those beside them.
func (e *end) write(t *testing.T, n int) {
	t.Helper()
	p := letters(n + 26)[len(e.taken)%26:][:n]
	took, err := e.s.Write([]byte(p))
	if (err != nil) != e.closed {
		t.Fatalf("Write: %v", err)
	}
	e.taken += p[:took]
}

func (e *end) close(t *testing.T) {
	t.Helper()
	if err := e.s.Close(); (err != nil) != e.closed {
		t.Fatalf("Close: %v", err)
	}
	e.closed = true
}

// send: a frame, if there is one.
func (e *end) send(other *end) {
	if f, ok := e.s.Frame(); ok {
		e.lastOut = f.Head.Flags == api.FlagFIN
		other.frames = append(other.frames, f)
	}
}

// read: up to n bytes, of which the other end may be granted some.
func (e *end) read(t *testing.T, n int, other *end) {
	t.Helper()
	data, delta, err := e.s.Read(n)
	e.gave += string(data)
	if delta > 0 {
		other.grants = append(other.grants, delta)
	}
	if err != nil {
		fails(t, "Read", err, api.ErrEOF)
		e.told = true
	}
}

// hear: the first frame under way.
func (e *end) hear(t *testing.T) {
	t.Helper()
	if len(e.frames) == 0 {
		return
	}
	f := e.frames[0]
	e.frames = e.frames[1:]
	fails(t, "Arrive", e.s.Arrive(f.Data, f.Head.Flags == api.FlagFIN), nil)
}

// getGrant: that with i ahead of it; grants may be handed back in any order.
func (e *end) getGrant(t *testing.T, i int) {
	t.Helper()
	delta := e.grants[i]
	e.grants = append(e.grants[:i:i], e.grants[i+1:]...)
	fails(t, "Grant", e.s.Grant(delta, false), nil)
}

// holds: P3, P4 and F4's sum, from that end to the other.
func (p *pair) holds(t *testing.T, from int) {
	t.Helper()
	e, other := p.ends[from], p.ends[1-from]
	here, there := e.s.View(), other.s.View()
	if !strings.HasPrefix(e.taken, other.gave) || other.told && !(e.closed && other.gave == e.taken) {
		t.Fatalf("gave %q of %q, told %v", other.gave, e.taken, other.told)
	}
	sum := int(here.Credit) + there.Unread + there.Owed
	for _, f := range other.frames {
		sum += len(f.Data)
	}
	for _, delta := range e.grants {
		sum += int(delta)
	}
	if sum > p.cfg.Window || !e.lastOut && sum != p.cfg.Window {
		t.Fatalf("%+v and %+v: the sum is %d, not the window %d", here, there, sum, p.cfg.Window)
	}
}

// turn: one drawn call of a drawn end; which kinds there are hangs on the weights.
func (p *pair) turn(t *testing.T, row *draws.Draws, weights [6]int) {
	t.Helper()
	i := row.Below(2)
	e, other := p.ends[i], p.ends[1-i]
	n, kind := row.Below(32), 0
	for ; kind < 5 && n >= weights[kind]; kind++ {
		n -= weights[kind]
	}
	switch kind {
	case 0:
		e.write(t, row.Below(12))
	case 1:
		e.send(other)
	case 2:
		e.hear(t)
	case 3:
		e.read(t, 1+row.Below(9), other)
	case 4:
		if len(e.grants) > 0 {
			e.getGrant(t, row.Below(len(e.grants)))
		}
	default:
		if len(e.taken) > 300 && row.Below(20) == 0 {
			e.close(t)
		}
		e.s.Accept() // whenever it may be; again and again it fails and changes nothing
	}
}

// finish: all that was taken comes, and both ends are told.
func (p *pair) finish(t *testing.T) {
	t.Helper()
	for i, e := range p.ends {
		if !e.closed {
			e.close(t)
		}
		e.s.Accept()
		p.holds(t, i)
	}
	for rounds := 0; !p.ends[0].s.Done() || !p.ends[1].s.Done(); rounds++ {
		if rounds > 2000 {
			t.Fatalf("it doesn't come to its end: %+v and %+v", p.ends[0].s.View(), p.ends[1].s.View())
		}
		for i, e := range p.ends {
			e.send(p.ends[1-i])
			e.hear(t)
			e.read(t, 1, p.ends[1-i])
			for len(e.grants) > 0 {
				e.getGrant(t, 0)
			}
			p.holds(t, i)
		}
	}
	for i, e := range p.ends {
		if e.taken != p.ends[1-i].gave || !e.s.Quiet() || e.s.Held() != 0 {
			t.Fatalf("end %d: not all was given", i)
		}
	}
}

// Both ends of a stream, two streams at once, in drawn interleavings: some seldom read, seldom hand on, or seldom write.
func TestP10_4_LawfulEndsNeverBreachTheWindow(t *testing.T) {
	row := draws.Draws(104)
	for range 150 {
		var pairs [2]*pair
		for i := range pairs {
			pairs[i] = newPair(t, api.Config{Window: 1 + row.Below(1+row.Below(40)), Stage: 1 + row.Below(30), Frame: 1 + row.Below(10)})
		}
		var weights [6]int
		for i := range weights {
			weights[i] = 1 + row.Below(10)
		}
		for range 1500 {
			p := pairs[row.Below(2)]
			p.turn(t, &row, weights)
			p.holds(t, 0)
			p.holds(t, 1)
		}
		for _, p := range pairs {
			p.finish(t)
		}
	}
}

// Every interleaving of eight turns, from one end to the other, of the smallest windows.
func TestP10_4_EachInterleavingOfAFewTurns(t *testing.T) {
	for window := 1; window <= 3; window++ {
		cfg := api.Config{Window: window, Stage: 3, Frame: 2}
		for order := range 65536 { // 4^8
			p := newPair(t, cfg)
			here, there := p.ends[0], p.ends[1]
			for rest, i := order, 0; i < 8; rest, i = rest/4, i+1 {
				switch rest % 4 {
				case 0:
					here.write(t, 3)
					here.send(there)
				case 1:
					there.hear(t)
				case 2:
					there.read(t, 1, here)
				default:
					if len(here.grants) > 0 {
						here.getGrant(t, len(here.grants)-1)
					}
				}
			}
			p.holds(t, 0)
		}
	}
}

// edge: a number that is among the edges, or a small one.
func edge(row *draws.Draws, edges ...int) int {
	if row.Below(6) == 0 {
		return edges[row.Below(len(edges))]
	}
	return row.Below(12)
}

// anyCall: one drawn call; resets and cuts are seldom.
func (b *both) anyCall(t *testing.T, row *draws.Draws) {
	t.Helper()
	switch kind := row.Below(400); {
	case kind < 1:
		b.reset(t)
	case kind < 3:
		b.cut(t)
	case kind < 8:
		b.close(t)
	case kind < 20:
		b.accept(t)
	case kind < 100:
		b.write(t, letters(60)[row.Below(26):][:min(30, edge(row, 0, 29, 30))])
	case kind < 200:
		b.frame(t)
	case kind < 290:
		b.arrive(t, letters(60)[row.Below(26):][:min(30, edge(row, b.p.left, min(30, b.p.left)+1, 30))], row.Below(40) == 0)
	case kind < 340:
		room := b.p.cfg.Window - b.p.credit
		b.grant(t, uint32(edge(row, 0, room, room+1, room-1, 1<<31, math.MaxUint32)), row.Below(60) == 0)
	default:
		b.read(t, edge(row, math.MinInt, -1, 0, len(b.p.unread), len(b.p.unread)+1, math.MaxInt))
	}
}

// Two streams at once, so that nothing of the one may hang on the other (R9); each goes on far behind its end.
func TestP10_1_LongRunsAgainstThePlainStream(t *testing.T) {
	row := draws.Draws(101)
	windows := []int{1, 2, 3, 4, 5, 8, 13, 100, 65536, api.MaxWindow}
	for range 300 {
		var runs [2]*both
		for i := range runs {
			cfg := api.Config{Window: windows[row.Below(len(windows))], Stage: 1 + row.Below(40), Frame: 1 + row.Below(20)}
			runs[i] = newBoth(t, uint32(1+row.Below(100)), cfg, row.Below(2) == 0)
		}
		for range 400 {
			runs[row.Below(2)].anyCall(t, &row)
			runs[0].same(t)
			runs[1].same(t)
		}
	}
}

// What a call that fails, or passes over, was told a hundred times makes no difference.
func TestR4_CallsThatFailLeaveNoTrace(t *testing.T) {
	for _, wrongs := range []int{0, 1, 100} {
		b := newBoth(t, 3, small, true)
		again := func(wrong func()) {
			for range wrongs {
				wrong()
			}
		}
		b.write(t, "abcdef")
		b.frame(t)
		again(func() {
			fails(t, "Grant", b.grant(t, 4, true), api.ErrCredit)
			fails(t, "Grant", b.grant(t, math.MaxUint32, true), api.ErrCredit)
			fails(t, "Arrive", b.arrive(t, "xyzw5", true), api.ErrWindow)
			b.read(t, -1)
		})
		fails(t, "Arrive", b.arrive(t, "xyz", false), nil)
		again(func() {
			fails(t, "Arrive", b.arrive(t, "uv", true), api.ErrWindow)
			b.read(t, math.MinInt)
		})
		b.read(t, 1)
		b.accept(t)
		b.close(t)
		again(func() {
			b.accept(t)
			b.close(t)
			b.write(t, "more")
		})
		fails(t, "Grant", b.grant(t, 3, false), nil)
		fails(t, "Arrive", b.arrive(t, "w", false), nil)
		reads(t, b.s, 9, "yzw", 4, nil)
		frames(t, b.s, 3, api.FlagFIN, "def")
	}
}

// room: the bytes with spare room around them, and all of the room.
func room(p string) (piece, whole []byte) {
	whole = []byte("<" + p + "spare room")
	return whole[1 : 1+len(p)], whole
}

func TestP10_5_WhatIsHandedInIsNeitherChangedNorKept(t *testing.T) {
	s := made(t, 1, small, true)
	piece, whole := room("abcdefgh")
	n, err := s.Write(piece)
	if n != 6 || err != nil || string(whole) != "<abcdefghspare room" {
		t.Fatalf("Write: %d, %v; the room is %q", n, err, whole)
	}
	specimens.Spoil(whole)
	frames(t, s, 1, 0, "abc")
	frames(t, s, 1, 0, "d")
	fails(t, "Grant", s.Grant(4, false), nil)
	frames(t, s, 1, 0, "ef")

	piece, whole = room("xyzw")
	if err := s.Arrive(piece, false); err != nil || string(whole) != "<xyzwspare room" {
		t.Fatalf("Arrive: %v; the room is %q", err, whole)
	}
	specimens.Spoil(whole)
	reads(t, s, 9, "xyzw", 4, nil)
}

func TestP10_5_WhatIsAnsweredIsNewMemory(t *testing.T) {
	cfg := api.Config{Window: 40, Stage: 40, Frame: 5}
	all := letters(40)
	s := made(t, 1, cfg, true)
	var frames, pieces [][]byte
	writes(t, s, all[:17], 17, nil)
	fails(t, "Arrive", s.Arrive([]byte(all[:17]), false), nil)
	for i := range 8 {
		if i == 2 {
			writes(t, s, all[17:], 23, nil)
			fails(t, "Arrive", s.Arrive([]byte(all[17:]), true), nil)
		}
		f, _ := s.Frame()
		frames = append(frames, f.Data)
		data, _, _ := s.Read(5)
		pieces = append(pieces, data)
		for j := range i + 1 { // neither what is answered later nor what an earlier answer is written over with is seen in another
			if want := all[5*j : 5*j+5]; string(frames[j]) != want || string(pieces[j]) != want {
				t.Fatalf("%q and %q, want %q twice", frames[j], pieces[j], want)
			}
			specimens.Spoil(frames[j])
			specimens.Spoil(pieces[j])
		}
		for j := range i + 1 {
			specimens.Spoil(frames[j])
			specimens.Spoil(pieces[j])
		}
	}
}

// handIn: weak pointers to what was handed in and to what was answered, which nothing else has.
func handIn(t *testing.T, s *stream.Stream) []weak.Pointer[byte] {
	t.Helper()
	written, came := []byte(letters(1000)), []byte(letters(1000))
	s.Write(written)
	fails(t, "Arrive", s.Arrive(came, false), nil)
	f, _ := s.Frame()
	data, _, _ := s.Read(100)
	return []weak.Pointer[byte]{weak.Make(&written[0]), weak.Make(&came[0]), weak.Make(&f.Data[0]), weak.Make(&data[0])}
}

func TestP10_5_NothingOfTheCallersIsKeptAlive(t *testing.T) {
	s := made(t, 1, api.Config{Window: 4000, Stage: 4000, Frame: 100}, true)
	left := handIn(t, s)
	runtime.GC()
	for i, p := range left {
		if p.Value() != nil {
			t.Errorf("the list %d is kept", i)
		}
	}
	looks(t, s, true, false, false, 1800)
}

func TestR5_NilAndEmptyAreTheSame(t *testing.T) {
	for _, none := range [][]byte{nil, {}, make([]byte, 0, 9)} {
		s := made(t, 1, small, true)
		for range 3 {
			if n, err := s.Write(none); n != 0 || err != nil {
				t.Errorf("Write: %d, %v", n, err)
			}
			fails(t, "Arrive", s.Arrive(none, false), nil)
			reads(t, s, 5, "", 0, nil)
			noFrame(t, s)
			sees(t, s, api.StreamView{ID: 1, State: api.SynSent, Mine: true, Credit: 4, Left: 4})
		}
		fails(t, "Arrive", s.Arrive(none, true), nil)
		reads(t, s, 5, "", 0, api.ErrEOF)
	}
}

func TestR7_ANilStream(t *testing.T) {
	var s *stream.Stream
	for range 2 {
		s.Reset()
		s.Cut()
		for _, p := range []string{"", "a", letters(1000)} {
			writes(t, s, p, 0, api.ErrNil)
			for _, fin := range []bool{false, true} {
				fails(t, "Arrive", s.Arrive([]byte(p), fin), api.ErrNil)
				fails(t, "Grant", s.Grant(uint32(len(p)), fin), api.ErrNil)
			}
		}
		for _, n := range []int{math.MinInt, -1, 0, 1, math.MaxInt} {
			reads(t, s, n, "", 0, api.ErrNil)
		}
		fails(t, "Grant", s.Grant(math.MaxUint32, true), api.ErrNil)
		fails(t, "Close", s.Close(), api.ErrNil)
		fails(t, "Accept", s.Accept(), api.ErrNil)
		noFrame(t, s)
		sees(t, s, api.StreamView{})
		looks(t, s, false, false, false, 0)
	}
}

// Streams of one id and configuration, each in a goroutine of its own, have nothing in common.
func TestR9_StreamsAtTheSameTime(t *testing.T) {
	var joined sync.WaitGroup
	for range 8 {
		joined.Add(1)
		go func() {
			defer joined.Done()
			s, err := stream.New(1, small, true)
			if err != nil {
				t.Error(err)
				return
			}
			for range 500 {
				n, _ := s.Write([]byte("abc"))
				f, ok := s.Frame()
				errA := s.Arrive(f.Data, false)
				data, delta, errR := s.Read(9)
				errG := s.Grant(delta, false)
				if n != 3 || !ok || string(data) != "abc" || delta != 3 || errA != nil || errR != nil || errG != nil {
					t.Errorf("%d, %v, %q, %d, %v, %v, %v", n, ok, data, delta, errA, errR, errG)
				}
			}
		}()
	}
	joined.Wait()
}
