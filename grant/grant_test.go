package grant_test

import (
	"math"
	"testing"

	"culvert/api"
	"culvert/credit"
	"culvert/draws"
	"culvert/grant"
	"culvert/sentinels"
)

const most = api.MaxWindow

// counts are what a Recv must tell.
type counts struct {
	left, unread, owed int
}

// newRecv: a Recv that must come about.
func newRecv(t *testing.T, window int) *grant.Recv {
	t.Helper()
	r, err := grant.New(window)
	if r == nil || err != nil {
		t.Fatalf("New(%d): %v, %v", window, r, err)
	}
	return r
}

// withCounts: a Recv that was brought to these counts; so much owed must be below the threshold.
func withCounts(t *testing.T, c counts) *grant.Recv {
	t.Helper()
	r := newRecv(t, c.left+c.unread+c.owed)
	arrive(t, r, c.unread+c.owed, nil)
	read(t, r, c.owed, 0, nil)
	tells(t, r, c)
	return r
}

// arrive: an Arrive that must end so.
func arrive(t *testing.T, r *grant.Recv, n int, want error) {
	t.Helper()
	if err := r.Arrive(n); !sentinels.Just(err, want) {
		t.Fatalf("Arrive(%d): %v, want %v", n, err, want)
	}
}

// read: a Read that must answer so.
func read(t *testing.T, r *grant.Recv, n int, delta uint32, want error) {
	t.Helper()
	if got, err := r.Read(n); got != delta || !sentinels.Just(err, want) {
		t.Fatalf("Read(%d): %d, %v, want %d, %v", n, got, err, delta, want)
	}
}

// tells: the counts must be these.
func tells(t *testing.T, r *grant.Recv, want counts) {
	t.Helper()
	if got := (counts{r.Left(), r.Unread(), r.Owed()}); got != want {
		t.Fatalf("Left, Unread, Owed are %v, want %v", got, want)
	}
}

// half: the threshold, by another way than the program's.
func half(window int) int { return window - window/2 }

// plainArrive: how an Arrive must end at these counts, and the counts behind it.
func plainArrive(c counts, n int) (counts, error) {
	switch {
	case n < 0:
		return c, api.ErrRange
	case n > c.left:
		return c, api.ErrWindow
	}
	return counts{c.left - n, c.unread + n, c.owed}, nil
}

// plainRead: what a Read must answer at these counts of this window, and the counts behind it.
func plainRead(window int, c counts, n int) (counts, uint32, error) {
	switch {
	case n < 0:
		return c, 0, api.ErrRange
	case n > c.unread:
		return c, 0, api.ErrUnderflow
	case c.owed+n < half(window):
		return counts{c.left, c.unread - n, c.owed + n}, 0, nil
	}
	return counts{c.left + c.owed + n, c.unread - n, 0}, uint32(c.owed + n), nil
}

// refused are the windows that may not be; some of them may be if they are cut to fewer bits.
var refused = []int{
	0, -1, -2, -most, -1 << 31, -1 << 32, 1 - 1<<32, 4 - 1<<32, math.MinInt + 1, math.MinInt,
	most + 1, most + 2, 1<<32 - 1, 1 << 32, 1<<32 + 1, 1<<40 + 4, math.MaxInt - 1, math.MaxInt,
}

func TestP8_1_New(t *testing.T) {
	for _, window := range []int{1, 2, 3, 4, 255, 256, 65535, 65536, 1 << 30, most - 1, most} {
		tells(t, newRecv(t, window), counts{left: window})
	}
}

func TestP8_1_NewRefuses(t *testing.T) {
	for _, window := range refused {
		if r, err := grant.New(window); r != nil || !sentinels.Just(err, api.ErrRange) {
			t.Errorf("New(%d): %v, %v", window, r, err)
		}
	}
}

func TestP8_1_Threshold(t *testing.T) {
	for window, want := range map[int]int{
		1: 1, 2: 1, 3: 2, 4: 2, 5: 3, 6: 3, 7: 4, 255: 128, 256: 128, 257: 129, 65535: 32768, 65536: 32768,
		1<<30 - 1: 1 << 29, 1 << 30: 1 << 29, 1<<30 + 1: 1<<29 + 1, most - 1: 1073741823, most: 1073741824,
	} {
		if got := grant.Threshold(window); got != want {
			t.Errorf("Threshold(%d): %d, want %d", window, got, want)
		}
	}
	for window := 1; window <= 3000; window++ {
		if got := grant.Threshold(window); got != half(window) {
			t.Errorf("Threshold(%d): %d, want %d", window, got, half(window))
		}
	}
}

func TestP8_1_ThresholdOfWhatNewRefuses(t *testing.T) {
	for _, window := range refused {
		if got := grant.Threshold(window); got != 0 {
			t.Errorf("Threshold(%d): %d, want 0", window, got)
		}
	}
}

// The chapter's examples, in their order.
func TestP8_1_TheChaptersExamples(t *testing.T) {
	r := newRecv(t, 5)
	arrive(t, r, 4, nil)
	tells(t, r, counts{1, 4, 0})
	arrive(t, r, 2, api.ErrWindow)
	tells(t, r, counts{1, 4, 0})
	read(t, r, 2, 0, nil)
	tells(t, r, counts{1, 2, 2})
	read(t, r, 0, 0, nil)
	tells(t, r, counts{1, 2, 2})
	read(t, r, 3, 0, api.ErrUnderflow)
	tells(t, r, counts{1, 2, 2})
	read(t, r, 1, 3, nil)
	tells(t, r, counts{4, 1, 0})
	arrive(t, r, 4, nil)
	tells(t, r, counts{0, 5, 0})
	read(t, r, 5, 5, nil)
	tells(t, r, counts{5, 0, 0})
	read(t, r, -1, 0, api.ErrRange)
	arrive(t, r, -1, api.ErrRange)
	tells(t, r, counts{5, 0, 0})
}

// The third of the whole's examples: what is told in heaps, of the windows 4, 1 and 5.
func TestF4_TheReceivingEndTellsInHeaps(t *testing.T) {
	for _, c := range []struct {
		window int
		deltas []uint32 // what each Read of one byte answers
	}{
		{1, []uint32{1}},
		{2, []uint32{1, 1}},
		{3, []uint32{0, 2, 0}},
		{4, []uint32{0, 2, 0, 2}},
		{5, []uint32{0, 0, 3, 0, 0}},
		{6, []uint32{0, 0, 3, 0, 0, 3}},
		{7, []uint32{0, 0, 0, 4, 0, 0, 0}},
	} {
		r := newRecv(t, c.window)
		arrive(t, r, c.window, nil)
		for _, delta := range c.deltas {
			read(t, r, 1, delta, nil)
		}
	}
	r := newRecv(t, 4)
	arrive(t, r, 3, nil)
	read(t, r, 1, 0, nil)
	read(t, r, 2, 3, nil)
}

// Each call at each state of the small windows; a call that fails leaves all as it was.
func TestP8_1_EachCallAtEachSmallState(t *testing.T) {
	for window := 1; window <= 14; window++ {
		for owed := range half(window) {
			for unread := 0; unread+owed <= window; unread++ {
				at := counts{window - unread - owed, unread, owed}
				for n := -2; n <= window+2; n++ {
					checkArrive(t, at, n)
					checkRead(t, at, n)
				}
			}
		}
	}
}

// Windows and counts around which sums and differences of 31 and 32 bits change.
func TestP8_1_EachCallAtTheEdges(t *testing.T) {
	for _, window := range []int{1, 2, 3, 65536, 1 << 30, most - 1, most} {
		for _, owed := range []int{0, 1, half(window) - 2, half(window) - 1} {
			for _, unread := range []int{0, 1, window / 2, window - owed - 1, window - owed} {
				if owed < 0 || owed >= half(window) || unread < 0 || unread+owed > window {
					continue
				}
				at := counts{window - unread - owed, unread, owed}
				for _, n := range edgesOf(at) {
					checkArrive(t, at, n)
					checkRead(t, at, n)
				}
			}
		}
	}
}

// edgesOf: those that would be lawful if they were cut to fewer bits are among them.
func edgesOf(c counts) []int {
	window := c.left + c.unread + c.owed
	untold := half(window) - c.owed
	return []int{
		math.MinInt, math.MinInt + 1, -1 << 32, c.left - 1<<32, c.unread - 1<<32, -1 << 31, -window, -c.left, -c.unread, -2, -1,
		0, 1, 2, untold - 1, untold, untold + 1, c.left, c.left + 1, c.unread, c.unread + 1, window, window + 1,
		most, most + 1, 1<<32 - 1, 1 << 32, 1<<32 + c.left, 1<<32 + c.unread, 1<<40 + 1, 1 << 62, math.MaxInt - 1, math.MaxInt,
	}
}

func checkArrive(t *testing.T, at counts, n int) {
	t.Helper()
	r := withCounts(t, at)
	behind, want := plainArrive(at, n)
	arrive(t, r, n, want)
	tells(t, r, behind)
	empties(t, r, behind)
}

func checkRead(t *testing.T, at counts, n int) {
	t.Helper()
	r := withCounts(t, at)
	behind, delta, want := plainRead(at.left+at.unread+at.owed, at, n)
	read(t, r, n, delta, want)
	tells(t, r, behind)
	empties(t, r, behind)
}

// empties: what is left comes whole and no byte more, and what is unread then is read whole and no byte more.
func empties(t *testing.T, r *grant.Recv, at counts) {
	t.Helper()
	window := at.left + at.unread + at.owed
	arrive(t, r, at.left+1, api.ErrWindow)
	arrive(t, r, at.left, nil)
	read(t, r, window-at.owed+1, 0, api.ErrUnderflow)
	read(t, r, window-at.owed, uint32(window), nil) // what was owed is told with it
	tells(t, r, counts{left: window})
}

// A window that was used up is whole again when all of it was read, as often as one likes.
func TestP8_3_TheWholeWindowManyTimes(t *testing.T) {
	for _, window := range []int{1, 2, 5, 1000, most - 1, most} {
		r := newRecv(t, window)
		for range 50 {
			arrive(t, r, window, nil)
			arrive(t, r, 1, api.ErrWindow)
			tells(t, r, counts{unread: window})
			read(t, r, window, uint32(window), nil)
			read(t, r, 1, 0, api.ErrUnderflow)
			tells(t, r, counts{left: window})
		}
	}
}

// direction is a Recv, what it must tell, and the sender at the other end.
type direction struct {
	r       *grant.Recv
	sender  *credit.Send
	window  int
	at      counts
	read    int
	granted int
}

func newDirection(t *testing.T, window int) *direction {
	t.Helper()
	sender, err := credit.New(window)
	if err != nil {
		t.Fatal(err)
	}
	return &direction{r: newRecv(t, window), sender: sender, window: window, at: counts{left: window}}
}

func (d *direction) arrive(t *testing.T, n int) {
	t.Helper()
	behind, want := plainArrive(d.at, n)
	arrive(t, d.r, n, want)
	d.at = behind
	if want == nil {
		if err := d.sender.Spend(n); err != nil {
			t.Fatalf("the sender's Spend(%d): %v", n, err)
		}
	}
}

func (d *direction) take(t *testing.T, n int) {
	t.Helper()
	behind, delta, want := plainRead(d.window, d.at, n)
	read(t, d.r, n, delta, want)
	d.at = behind
	if want == nil {
		d.read += n
		d.granted += int(delta)
	}
	if err := d.sender.Grant(delta); err != nil {
		t.Fatalf("the sender's Grant(%d): %v", delta, err)
	}
}

// call: one drawn call; a third of them at the edges, where most fail.
func (d *direction) call(t *testing.T, row *draws.Draws) {
	t.Helper()
	edges := edgesOf(d.at)
	switch row.Below(6) {
	case 0:
		d.arrive(t, edges[row.Below(len(edges))])
	case 1:
		d.take(t, edges[row.Below(len(edges))])
	case 2, 3:
		d.arrive(t, row.Below(d.at.left+2))
	default:
		d.take(t, row.Below(d.at.unread+2))
	}
}

// holds: P8.2 and P8.3 hold of what the Recv tells.
func (d *direction) holds(t *testing.T) {
	t.Helper()
	tells(t, d.r, d.at)
	left, unread, owed := d.r.Left(), d.r.Unread(), d.r.Owed()
	switch {
	case left+unread+owed != d.window:
		t.Fatalf("%v aren't the window %d", d.at, d.window)
	case left < 0 || unread < 0 || owed < 0:
		t.Fatalf("%v: below 0", d.at)
	case owed >= grant.Threshold(d.window):
		t.Fatalf("%v: so much is owed at the window %d", d.at, d.window)
	case d.granted+owed != d.read:
		t.Fatalf("granted %d and owed %d, where %d were read", d.granted, owed, d.read)
	case d.sender.Have() != uint32(left):
		t.Fatalf("the sender has %d, left are %d", d.sender.Have(), left)
	case left == 0 && unread == 0:
		t.Fatalf("nothing is left and nothing unread, at the window %d", d.window)
	}
}

// Two Recvs at once, so that nothing of the one may hang on the other (R9).
func TestP8_2_P8_3_LongRunsAgainstPlainNumbers(t *testing.T) {
	row := draws.Draws(88)
	windows := []int{1, 2, 3, 4, 5, 6, 7, 100, 101, 65536, 1 << 24, most - 1, most}
	for range 60 {
		var runs [2]*direction
		for i := range runs {
			runs[i] = newDirection(t, windows[row.Below(len(windows))])
		}
		for range 1000 {
			runs[row.Below(2)].call(t, &row)
			for _, d := range runs {
				d.holds(t)
			}
		}
	}
}

// A sender has credit again whenever all that came was read, in whichever pieces.
func TestP8_3_CreditWheneverAllWasRead(t *testing.T) {
	row := draws.Draws(5)
	for window := 1; window <= 40; window++ {
		d := newDirection(t, window)
		for range 100 {
			d.arrive(t, d.at.left)
			tells(t, d.r, d.at)
			for d.at.unread > 0 {
				d.take(t, 1+row.Below(d.at.unread))
				d.holds(t)
			}
			if d.sender.Have() == 0 {
				t.Fatalf("the window %d: no credit", window)
			}
		}
	}
}

// inPieces: n bytes by drawn pieces, some of them empty.
func inPieces(row *draws.Draws, n int, call func(int)) {
	for n > 0 {
		piece := row.Below(n + 1)
		call(piece)
		n -= piece
	}
}

// Two Recvs of one window, to which as much came and of which as much was read, each in its own pieces.
func TestP8_4_PiecesChangeOnlyWhenIsGranted(t *testing.T) {
	row := draws.Draws(84)
	for _, window := range []int{1, 2, 3, 4, 5, 8, 13, 1000, 65537, most} {
		one, other := newDirection(t, window), newDirection(t, window)
		for range 400 {
			coming := row.Below(min(one.at.left, other.at.left) + 1)
			reading := row.Below(one.at.unread + coming + 1)
			for _, d := range []*direction{one, other} {
				inPieces(&row, coming, func(n int) { d.arrive(t, n) })
				inPieces(&row, reading, func(n int) { d.take(t, n) })
				d.holds(t)
			}
			if apart := one.granted - other.granted; max(apart, -apart) >= grant.Threshold(window) {
				t.Fatalf("the window %d: grants of %d and %d", window, one.granted, other.granted)
			}
		}
	}
}

// The farthest that the pieces can bring two grants apart: all bytes at once, and one by one.
func TestP8_4_AllAtOnceAndOneByOne(t *testing.T) {
	for window := 1; window <= 60; window++ {
		for n := 0; n <= window; n++ {
			once, single := newDirection(t, window), newDirection(t, window)
			once.arrive(t, n)
			once.take(t, n)
			for range n {
				single.arrive(t, 1)
			}
			for range n {
				single.take(t, 1)
			}
			once.holds(t)
			single.holds(t)
			if apart := once.granted - single.granted; apart < 0 || apart >= half(window) || apart != single.at.owed-once.at.owed {
				t.Fatalf("%d of the window %d: grants of %d and %d", n, window, once.granted, single.granted)
			}
		}
	}
}

// An Arrive of 0 and a Read of 0 are lawful at every state and change nothing.
func TestP8_1_Nothing(t *testing.T) {
	for _, at := range []counts{{1, 0, 0}, {0, 1, 0}, {2, 3, 2}, {0, 5, 2}, {most, 0, 0}, {0, most, 0}} {
		r := withCounts(t, at)
		for range 10 {
			arrive(t, r, 0, nil)
			read(t, r, 0, 0, nil)
			tells(t, r, at)
		}
	}
}

func TestR4_CallsThatFailLeaveNoTrace(t *testing.T) {
	for _, at := range []counts{{1, 2, 1}, {0, 4, 0}, {4, 0, 0}, {3, 2, 2}, {1 << 20, 1 << 29, 1 << 10}} {
		r := withCounts(t, at)
		for range 100 {
			arrive(t, r, -1, api.ErrRange)
			arrive(t, r, math.MinInt, api.ErrRange)
			arrive(t, r, at.left+1, api.ErrWindow)
			arrive(t, r, math.MaxInt, api.ErrWindow)
			read(t, r, -1, 0, api.ErrRange)
			read(t, r, math.MinInt, 0, api.ErrRange)
			read(t, r, at.unread+1, 0, api.ErrUnderflow)
			read(t, r, math.MaxInt, 0, api.ErrUnderflow)
		}
		tells(t, r, at)
		empties(t, r, at)
	}
}

// Recvs of one window are told apart, and asking changes nothing.
func TestR9_RecvsDoNotHangOnEachOther(t *testing.T) {
	first, second := newRecv(t, 8), newRecv(t, 8)
	arrive(t, first, 7, nil)
	tells(t, second, counts{left: 8})
	read(t, second, 1, 0, api.ErrUnderflow)
	arrive(t, second, 8, nil)
	read(t, second, 3, 0, nil)
	for range 3 {
		tells(t, first, counts{1, 7, 0})
		tells(t, second, counts{0, 5, 3})
	}
	read(t, first, 3, 0, nil)
	read(t, second, 1, 4, nil)
	tells(t, first, counts{1, 4, 3})
	tells(t, second, counts{4, 4, 0})
}

func TestR7_ANilRecv(t *testing.T) {
	var r *grant.Recv
	for _, n := range []int{math.MinInt, -1, 0, 1, 4, most, most + 1, 1 << 32, math.MaxInt} {
		arrive(t, r, n, api.ErrNil)
		read(t, r, n, 0, api.ErrNil)
	}
	tells(t, r, counts{})
}
