package handles

import (
	"slices"
	"testing"

	"culvert/api"
	"culvert/sentinels"
)

// No run of calls gets so many handles, so the count is set here by hand.
func TestP22_2_HandlesRunOut(t *testing.T) {
	for left := range 4 {
		h := New()
		first := api.Place{Conn: 3, Life: 1, ID: 1}
		if n, err := h.Bind(first); n != 1 || err != nil {
			t.Fatalf("Bind: %d, %v", n, err)
		}
		h.given = api.MaxHandles - left
		want := []int{1}
		for i := range left {
			n, err := h.Bind(api.Place{Conn: 3, Life: 1, ID: uint32(7 + i)})
			if n != 1<<31-left+1+i || err != nil {
				t.Fatalf("Bind with %d left: %d, %v", left-i, n, err)
			}
			want = append(want, n)
		}
		for range 3 { // the last one that can be given is 2^31
			if n, err := h.Bind(api.Place{Conn: 3, Life: 1, ID: 99}); n != 0 || !sentinels.Just(err, api.ErrExhausted) {
				t.Fatalf("Bind behind the last: %d, %v", n, err)
			}
			if n, err := h.Bind(first); n != 0 || !sentinels.Just(err, api.ErrTwice) {
				t.Fatalf("Bind of a place that has a handle, behind the last: %d, %v", n, err)
			}
			if got := h.On(3, 1); !slices.Equal(got, want) || h.Len() != left+1 {
				t.Fatalf("On: %v, Len %d, want %v", got, h.Len(), want)
			}
		}
	}
}

// What is dropped makes room for no other.
func TestP22_4_DroppedHandlesDoNotComeBackAtTheEnd(t *testing.T) {
	h := New()
	h.given = api.MaxHandles - 1
	if n, err := h.Bind(api.Place{}); n != 1<<31 || err != nil {
		t.Fatalf("Bind: %d, %v", n, err)
	}
	if p, ok := h.Find(1 << 31); p != (api.Place{}) || !ok {
		t.Fatalf("Find of the last: %v, %v", p, ok)
	}
	if !h.Drop(1<<31) || h.Drop(1<<31) || h.Len() != 0 {
		t.Fatal("Drop of the last")
	}
	if n, err := h.Bind(api.Place{}); n != 0 || !sentinels.Just(err, api.ErrExhausted) {
		t.Errorf("Bind behind the last: %d, %v", n, err)
	}
	if n, ok := h.Of(api.Place{}); n != 0 || ok || h.Len() != 0 {
		t.Errorf("what was refused is kept: %d, %v", n, ok)
	}
}
