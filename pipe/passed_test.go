package pipe

import (
	"math"
	"testing"
)

// No run of calls comes near 2^64 bytes, so the count is set here by hand.
func TestP19_4_PassedGoesOnFromZero(t *testing.T) {
	for _, c := range []struct {
		before uint64
		n      int
		behind uint64
	}{
		{math.MaxUint64 - 3, 2, math.MaxUint64 - 1},
		{math.MaxUint64 - 3, 3, math.MaxUint64},
		{math.MaxUint64 - 3, 4, 0},
		{math.MaxUint64 - 3, 9, 1},
		{1<<63 - 1, 1, 1 << 63},
		{1<<32 - 1, 1, 1 << 32},
	} {
		p := New()
		if n, err := p.Put([]byte("abcde")); n != 5 || err != nil {
			t.Fatalf("Put: %d, %v", n, err)
		}
		p.passed = c.before
		if b := p.Move(c.n); len(b) != min(c.n, 5) || p.Passed() != c.behind || p.Len() != 5-len(b) {
			t.Errorf("Move(%d) behind %d: %d bytes, Passed %d, want %d; Len %d", c.n, c.before, len(b), p.Passed(), c.behind, p.Len())
		}
		p.Cut()
		if p.Passed() != c.behind {
			t.Errorf("Passed: %d behind the cut, want %d", p.Passed(), c.behind)
		}
	}
}
