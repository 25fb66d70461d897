package credit_test

import (
	"math"
	"testing"

	"culvert/api"
	"culvert/credit"
	"culvert/draws"
	"culvert/sentinels"
)

const most = api.MaxWindow

// newSend: a Send that must come about.
func newSend(t *testing.T, window int) *credit.Send {
	t.Helper()
	s, err := credit.New(window)
	if s == nil || err != nil {
		t.Fatalf("New(%d): %v, %v", window, s, err)
	}
	return s
}

// withCredit: a Send of this window that has spent all but so much.
func withCredit(t *testing.T, window, have int) *credit.Send {
	t.Helper()
	s := newSend(t, window)
	spend(t, s, window-have, nil)
	return s
}

// spend: a Spend that must end so.
func spend(t *testing.T, s *credit.Send, n int, want error) {
	t.Helper()
	if err := s.Spend(n); !sentinels.Just(err, want) {
		t.Fatalf("Spend(%d): %v, want %v", n, err, want)
	}
}

// grant: a Grant that must end so.
func grant(t *testing.T, s *credit.Send, delta uint32, want error) {
	t.Helper()
	if err := s.Grant(delta); !sentinels.Just(err, want) {
		t.Fatalf("Grant(%d): %v, want %v", delta, err, want)
	}
}

// tells: Have and Spent must be these.
func tells(t *testing.T, s *credit.Send, have uint32, spent uint64) {
	t.Helper()
	if s.Have() != have || s.Spent() != spent {
		t.Fatalf("Have %d, Spent %d, want %d, %d", s.Have(), s.Spent(), have, spent)
	}
}

// plainSpend: how a Spend must end at this credit.
func plainSpend(have, n int) error {
	switch {
	case n < 0:
		return api.ErrRange
	case n > have:
		return api.ErrUnderflow
	}
	return nil
}

// plainGrant: how a Grant must end at this credit; the sum of 64 bits can't wrap.
func plainGrant(window, have int, delta uint32) error {
	if int64(have)+int64(delta) > int64(window) {
		return api.ErrCredit
	}
	return nil
}

func TestP7_1_New(t *testing.T) {
	for _, window := range []int{1, 2, 3, 4, 255, 256, 65535, 65536, 1 << 30, most - 1, most} {
		tells(t, newSend(t, window), uint32(window), 0)
	}
}

func TestP7_1_NewRefuses(t *testing.T) {
	for _, window := range []int{
		0, -1, -2, -most, -1 << 31, -1 << 32, 1 - 1<<32, math.MinInt + 1, math.MinInt,
		most + 1, most + 2, 1<<32 - 1, 1 << 32, 1<<32 + 1, 1<<40 + 4, math.MaxInt - 1, math.MaxInt,
	} {
		if s, err := credit.New(window); s != nil || !sentinels.Just(err, api.ErrRange) {
			t.Errorf("New(%d): %v, %v", window, s, err)
		}
	}
}

// The chapter's examples, in their order.
func TestP7_1_TheChaptersExamples(t *testing.T) {
	s := newSend(t, 4)
	tells(t, s, 4, 0)
	grant(t, s, 1, api.ErrCredit)
	grant(t, s, 0, nil)
	spend(t, s, 5, api.ErrUnderflow)
	spend(t, s, -1, api.ErrRange)
	spend(t, s, 3, nil)
	tells(t, s, 1, 3)
	grant(t, s, 4294967295, api.ErrCredit)
	grant(t, s, 4, api.ErrCredit)
	grant(t, s, 3, nil)
	tells(t, s, 4, 3)
}

// Each Spend and each Grant at each credit of the small windows; a call that fails leaves all as it was.
func TestP7_1_EachCallAtEachSmallCredit(t *testing.T) {
	for window := 1; window <= 16; window++ {
		for have := 0; have <= window; have++ {
			for n := -2; n <= window+2; n++ {
				checkSpend(t, window, have, n)
			}
			for delta := range uint32(window + 3) {
				checkGrant(t, window, have, delta)
			}
		}
	}
}

// Windows and credits around which sums and differences of 31 and 32 bits change.
func TestP7_1_EachCallAtTheEdges(t *testing.T) {
	for _, window := range []int{1, 2, 4, 65536, 1 << 30, most - 1, most} {
		for _, have := range []int{0, 1, 2, window / 2, window - 1, window} {
			if have > window {
				continue
			}
			for _, n := range edgeSpends(window, have) {
				checkSpend(t, window, have, n)
			}
			for _, delta := range edgeGrants(window, have) {
				checkGrant(t, window, have, delta)
			}
		}
	}
}

// edgeSpends: those that would be lawful if they were cut to fewer bits are among them.
func edgeSpends(window, have int) []int {
	return []int{
		math.MinInt, math.MinInt + 1, math.MinInt + have, -1 << 32, have - 1<<32, -1 << 31, -window, -have, -2, -1,
		0, 1, 2, have, have + 1, window, window + 1,
		most, most + 1, 1<<32 - 1, 1 << 32, 1<<32 + 1, 1<<32 + have, 1<<40 + have, 1<<62 + have, math.MaxInt - 1, math.MaxInt,
	}
}

// edgeGrants: those whose sum with the credit is lawful again if it wraps are among them.
func edgeGrants(window, have int) []uint32 {
	room := uint32(window - have)
	wraps := -uint32(have)
	return []uint32{
		0, 1, 2, room, room + 1, uint32(window), uint32(window) + 1,
		most - 1, most, most + 1, most + 2, wraps - 1, wraps, wraps + 1, wraps + uint32(window), math.MaxUint32 - 1, math.MaxUint32,
	}
}

func checkSpend(t *testing.T, window, have, n int) {
	t.Helper()
	s := withCredit(t, window, have)
	want := plainSpend(have, n)
	spend(t, s, n, want)
	if want != nil {
		n = 0
	}
	tells(t, s, uint32(have-n), uint64(window-have+n))
	spend(t, s, have-n, nil) // what is left is whole
	grant(t, s, uint32(window), nil)
	tells(t, s, uint32(window), uint64(window))
}

func checkGrant(t *testing.T, window, have int, delta uint32) {
	t.Helper()
	s := withCredit(t, window, have)
	want := plainGrant(window, have, delta)
	grant(t, s, delta, want)
	if want != nil {
		delta = 0
	}
	tells(t, s, uint32(have)+delta, uint64(window-have))
	grant(t, s, uint32(window-have)-delta, nil) // what is free is whole
	grant(t, s, 1, api.ErrCredit)
	tells(t, s, uint32(window), uint64(window-have))
}

// A Send that was used up can be filled again, as often as one likes.
func TestP7_2_TheWholeWindowManyTimes(t *testing.T) {
	for _, window := range []int{1, 2, 4, 1000, most} {
		s := newSend(t, window)
		for i := range uint64(50) {
			tells(t, s, uint32(window), i*uint64(window))
			spend(t, s, window, nil)
			tells(t, s, 0, (i+1)*uint64(window))
			spend(t, s, 1, api.ErrUnderflow)
			grant(t, s, uint32(window), nil)
			grant(t, s, 1, api.ErrCredit)
		}
	}
}

// Spent is more than 32 bits hold behind the third of the greatest windows.
func TestP7_2_SpentIsNotOf32Bits(t *testing.T) {
	s := newSend(t, most)
	for range 3 {
		spend(t, s, most, nil)
		grant(t, s, most, nil)
	}
	tells(t, s, most, 3*most)
}

// Nothing is spent by what is granted, and nothing is granted by asking.
func TestP7_2_GrantsAndQuestionsLeaveSpentAsItIs(t *testing.T) {
	s := withCredit(t, 9, 2)
	for i := range uint32(8) {
		for range 3 {
			tells(t, s, 2+i, 7)
		}
		if i < 7 {
			grant(t, s, 1, nil)
		}
	}
	grant(t, s, 1, api.ErrCredit)
}

// run is a Send, and what its accepted calls must have left.
type run struct {
	s       *credit.Send
	window  int
	spent   int
	granted int
}

func (r *run) credit() int { return r.window - r.spent + r.granted }

func (r *run) spend(t *testing.T, n int) {
	t.Helper()
	want := plainSpend(r.credit(), n)
	spend(t, r.s, n, want)
	if want == nil {
		r.spent += n
	}
}

func (r *run) grant(t *testing.T, delta uint32) {
	t.Helper()
	want := plainGrant(r.window, r.credit(), delta)
	grant(t, r.s, delta, want)
	if want == nil {
		r.granted += int(delta)
	}
}

// call: one drawn call; a third of them at the edges, where most fail.
func (r *run) call(t *testing.T, d *draws.Draws) {
	t.Helper()
	room := r.window - r.credit()
	switch d.Below(6) {
	case 0:
		all := edgeSpends(r.window, r.credit())
		r.spend(t, all[d.Below(len(all))])
	case 1:
		all := edgeGrants(r.window, r.credit())
		r.grant(t, all[d.Below(len(all))])
	case 2, 3:
		r.spend(t, d.Below(r.credit()+2))
	default:
		r.grant(t, uint32(d.Below(room+2)))
	}
}

// Two Sends at once, so that nothing of the one may hang on the other (R9).
func TestP7_2_LongRunsAgainstPlainNumbers(t *testing.T) {
	d := draws.Draws(77)
	windows := []int{1, 2, 3, 4, 5, 7, 100, 65536, 1 << 24, most - 1, most}
	for range 60 {
		var runs [2]run
		for i := range runs {
			window := windows[d.Below(len(windows))]
			runs[i] = run{s: newSend(t, window), window: window}
		}
		for range 1000 {
			runs[d.Below(2)].call(t, &d)
			for _, r := range runs {
				tells(t, r.s, uint32(r.credit()), uint64(r.spent))
				if int(r.s.Have()) > r.window {
					t.Fatalf("Have %d of the window %d", r.s.Have(), r.window)
				}
			}
		}
	}
}

func TestR4_CallsThatFailLeaveNoTrace(t *testing.T) {
	for _, window := range []int{2, 4, 65536, most} {
		s := withCredit(t, window, window/2)
		for range 100 {
			spend(t, s, -1, api.ErrRange)
			spend(t, s, math.MinInt, api.ErrRange)
			spend(t, s, window/2+1, api.ErrUnderflow)
			spend(t, s, 1<<32, api.ErrUnderflow)
			grant(t, s, uint32(window), api.ErrCredit)
			grant(t, s, math.MaxUint32, api.ErrCredit)
		}
		tells(t, s, uint32(window/2), uint64(window-window/2))
	}
}

// Two of the same calls answer the same, whatever other Sends there are and whatever was refused in between.
func TestR9_SendsDoNotHangOnEachOther(t *testing.T) {
	alone := withCredit(t, 10, 4)
	first, second := newSend(t, 10), newSend(t, 10)
	spend(t, first, 6, nil)
	tells(t, second, 10, 0)
	grant(t, second, 1, api.ErrCredit)
	spend(t, second, 10, nil)
	tells(t, first, alone.Have(), alone.Spent())
	grant(t, first, 6, nil)
	tells(t, second, 0, 10)
	tells(t, first, 10, 6)
	tells(t, alone, 4, 6)
}

func TestR7_ANilSend(t *testing.T) {
	var s *credit.Send
	for _, n := range []int{math.MinInt, -1, 0, 1, 4, most, 1 << 32, math.MaxInt} {
		spend(t, s, n, api.ErrNil)
	}
	for _, delta := range []uint32{0, 1, 4, most, most + 1, math.MaxUint32} {
		grant(t, s, delta, api.ErrNil)
	}
	tells(t, s, 0, 0)
}
