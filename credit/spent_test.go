package credit

import (
	"math"
	"testing"
)

// No run of calls comes near 2^64 bytes, so the count is set here by hand.
func TestP7_2_SpentGoesOnFromZero(t *testing.T) {
	s, err := New(4)
	if err != nil {
		t.Fatal(err)
	}
	s.spent = math.MaxUint64 - 2
	for _, want := range []struct {
		credit uint32
		spent  uint64
	}{{3, math.MaxUint64 - 1}, {2, math.MaxUint64}, {1, 0}, {0, 1}} {
		if err := s.Spend(1); err != nil || s.Have() != want.credit || s.Spent() != want.spent {
			t.Errorf("Spend(1): %v, Have %d, Spent %d, want %d, %d", err, s.Have(), s.Spent(), want.credit, want.spent)
		}
	}
}
