package draws_test

import (
	"slices"
	"testing"

	"culvert/draws"
)

// row: the first numbers below n of the row that begins with this value.
func row(begin draws.Draws, n, many int) []int {
	var out []int
	for range many {
		out = append(out, begin.Below(n))
	}
	return out
}

func TestARowIsTheSameEachTime(t *testing.T) {
	if !slices.Equal(row(7, 100, 50), row(7, 100, 50)) {
		t.Error("two rows of one beginning differ")
	}
	if slices.Equal(row(7, 100, 50), row(8, 100, 50)) {
		t.Error("two rows of two beginnings are the same")
	}
}

func TestEachNumberComesAndNoOther(t *testing.T) {
	for n := 1; n < 40; n++ {
		count := make([]int, n)
		for _, v := range row(1, n, 50*n) {
			count[v]++
		}
		if slices.Contains(count, 0) {
			t.Errorf("below %d: %v", n, count)
		}
	}
}

// A row that came round soon would draw the same turns again and again, and most of all where few numbers are asked for.
func TestARowDoesNotComeRoundSoon(t *testing.T) {
	for n := 2; n < 40; n++ {
		numbers := row(1, n, 1<<14)
		for again := 1; again <= 1<<13; again *= 2 {
			if slices.Equal(numbers[:1<<13], numbers[again:again+1<<13]) {
				t.Errorf("below %d: the row comes round behind %d", n, again)
			}
		}
	}
}
