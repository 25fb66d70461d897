package robin_test

import (
	"math"
	"slices"
	"testing"

	"culvert/robin"
)

// The chapter's examples, in their order.
func TestP12_1_Examples(t *testing.T) {
	r := robin.New[string]()
	lists := func(want ...string) {
		t.Helper()
		if got := r.List(); !slices.Equal(got, want) {
			t.Errorf("List: %v, want %v", got, want)
		}
	}
	nexts := func(want string, wantOK bool) {
		t.Helper()
		if k, ok := r.Next(); k != want || ok != wantOK {
			t.Errorf("Next: %q, %v, want %q, %v", k, ok, want, wantOK)
		}
	}
	if !r.Add("a") || !r.Add("b") || r.Add("a") {
		t.Error("Add")
	}
	nexts("a", true)
	if !r.Add("c") {
		t.Error("Add of c")
	}
	lists("b", "a", "c")
	nexts("b", true)
	if !r.Remove("a") || r.Remove("a") {
		t.Error("Remove")
	}
	lists("c", "b")
	nexts("c", true)
	if n := r.Len(); n != 2 {
		t.Errorf("Len: %d", n)
	}
	if n := r.Clear(); n != 2 {
		t.Errorf("Clear: %d", n)
	}
	nexts("", false)
}

func TestP12_1_NewHasNoKeys(t *testing.T) {
	b := made[int](t)
	for range 2 {
		b.lists(t)
		b.tells(t, 0, 1, -1, math.MaxInt)
		b.next(t)
		b.remove(t, 0)
		b.remove(t, 1)
		b.clear(t)
	}
	if !b.add(t, 0) {
		t.Error("Add")
	}
	b.lists(t, 0)
}

func TestP12_1_AddedKeysStandBehindAllOthers(t *testing.T) {
	for n := range 7 {
		for times := range 2*n + 1 {
			b := turned(t, n, 0)
			for range times {
				b.next(t)
			}
			want := append(slices.Clone(b.p), 77, 78)
			if !b.add(t, 77) || !b.add(t, 78) {
				t.Fatal("Add")
			}
			b.lists(t, want...)
			b.answers(t, want...)
			b.answers(t, want...)
		}
	}
}

func TestP12_1_AKeyThatIsThereKeepsItsPlace(t *testing.T) {
	for n := 1; n < 7; n++ {
		for times := range 2*n + 1 {
			b := turned(t, n, times)
			want := slices.Clone(b.p)
			for _, k := range want {
				if b.add(t, k) || b.add(t, k) {
					t.Fatal("Add of what is there")
				}
				b.lists(t, want...)
			}
			b.answers(t, want...)
		}
	}
}

func TestP12_1_RemoveTakesOneOutAndKeepsTheOthersOrder(t *testing.T) {
	for n := 1; n < 7; n++ {
		for times := range 2*n + 1 {
			for gone := 1; gone <= n; gone++ {
				b := turned(t, n, times)
				want := slices.DeleteFunc(slices.Clone(b.p), func(k int) bool { return k == gone })
				if !b.remove(t, gone) || b.remove(t, gone) {
					t.Fatal("Remove")
				}
				b.lists(t, want...)
				b.tells(t, gone)
				b.answers(t, want...)
				b.answers(t, want...)
			}
		}
	}
}

func TestP12_1_RemoveOfWhatIsNotThere(t *testing.T) {
	for n := range 5 {
		b := turned(t, n, n)
		want := slices.Clone(b.p)
		for _, k := range []int{0, -1, n + 1, 1 << 32, 1<<32 + 1, math.MaxInt, math.MinInt} {
			if b.remove(t, k) {
				t.Fatalf("Remove(%d)", k)
			}
			b.lists(t, want...)
		}
		b.answers(t, want...)
	}
}

// Every order of taking out up to five keys, till none is left, with every number of Nexts between.
func TestP12_1_KeysGoInEveryOrder(t *testing.T) {
	for n := 1; n < 6; n++ {
		for turns := range n {
			takeOut(t, n, turns, nil)
		}
	}
}

// takeOut: from n keys of which these have gone, each that is left goes next.
func takeOut(t *testing.T, n, turns int, gone []int) {
	t.Helper()
	b := turned(t, n, 0)
	for _, k := range gone {
		for range turns {
			b.next(t)
		}
		b.remove(t, k)
		b.tells(t, gone...)
	}
	b.goesRound(t)
	for _, k := range slices.Clone(b.p) {
		takeOut(t, n, turns, append(slices.Clone(gone), k))
	}
}

// What has gone out comes again as a new key does, by whichever call it went.
func TestP12_1_AKeyThatComesAgainStandsBehindAllOthers(t *testing.T) {
	b := made(t, "a", "b", "c")
	for range 3 {
		b.remove(t, "a")
		if !b.add(t, "a") {
			t.Fatal("Add of what went")
		}
		b.lists(t, "b", "c", "a")
		b.remove(t, "c")
		b.next(t)
		b.add(t, "c")
		b.lists(t, "a", "b", "c")
	}
	b.clear(t)
	for _, k := range []string{"c", "a"} {
		if !b.add(t, k) {
			t.Fatal("Add of what was cleared")
		}
	}
	b.lists(t, "c", "a")
	b.goesRound(t)
}

func TestP12_2_NextAnswersTheFirstAndMovesItBehind(t *testing.T) {
	b := made(t, 7, 5, 9)
	b.answers(t, 7)
	b.lists(t, 5, 9, 7)
	b.answers(t, 5)
	b.lists(t, 9, 7, 5)
	b.answers(t, 9)
	b.lists(t, 7, 5, 9)
	b.answers(t, 7, 5, 9, 7, 5, 9, 7)

	alone := made(t, 4)
	alone.answers(t, 4, 4, 4)
	alone.lists(t, 4)
}

func TestP12_2_NextOfNoneIsTheZeroValueAndFalse(t *testing.T) {
	b := made(t, "a", "b")
	b.answers(t, "a", "b")
	b.remove(t, "a")
	b.remove(t, "b")
	for range 3 {
		if k, ok := b.r.Next(); k != "" || ok {
			t.Errorf("Next behind the last Remove: %q, %v", k, ok)
		}
	}
	b.add(t, "c")
	b.answers(t, "c", "c")
	b.clear(t)
	if k, ok := b.r.Next(); k != "" || ok {
		t.Errorf("Next behind Clear: %q, %v", k, ok)
	}
	type place struct {
		conn int
		id   *int
	}
	if k, ok := robin.New[place]().Next(); k != (place{}) || ok {
		t.Errorf("Next: %v, %v", k, ok)
	}
}

// A key that is the zero value is still a key.
func TestP12_2_TheZeroValueIsAKey(t *testing.T) {
	b := made(t, "", "a")
	if b.add(t, "") {
		t.Error("Add of what is there")
	}
	b.lists(t, "", "a")
	b.answers(t, "", "a", "")
	if !b.remove(t, "") {
		t.Error("Remove")
	}
	b.lists(t, "a")
}

func TestP12_3_LenCountsKeysAndNotCalls(t *testing.T) {
	r := robin.New[int]()
	for n := range 20 {
		for range 3 {
			r.Add(n)
		}
		r.Next()
		r.Remove(-1)
		if r.Len() != n+1 || len(r.List()) != n+1 {
			t.Fatalf("Len %d, List of %d, want %d", r.Len(), len(r.List()), n+1)
		}
	}
	for n := 19; n >= 0; n-- {
		r.Remove(n)
		r.Remove(n)
		if r.Len() != n {
			t.Fatalf("Len: %d, want %d", r.Len(), n)
		}
	}
}

func TestP12_3_ClearTakesAllOutAndCountsThem(t *testing.T) {
	for n := range 20 {
		b := turned(t, n, n/2)
		all := slices.Clone(b.p)
		if got := b.r.Clear(); got != n {
			t.Fatalf("Clear: %d, want %d", got, n)
		}
		b.p = nil
		b.tells(t, all...)
		b.clear(t)
		b.next(t)
		b.add(t, 2)
		b.add(t, 1)
		b.lists(t, 2, 1)
		b.answers(t, 2, 1, 2)
	}
}

// Has, Len and List change nothing, however often they are called.
func TestP12_3_AskingChangesNothing(t *testing.T) {
	b := turned(t, 5, 3)
	for range 10 {
		b.lists(t, 1, 2, 3, 4, 5)
		b.tells(t, 0, 6)
	}
	b.answers(t, 1, 2, 3, 4, 5)
}

// Keys of each sort, of which some differ in their last part alone.
func TestP12_3_KeysOfEachSort(t *testing.T) {
	ofSort(t, false, true)
	ofSort[uint8](t, 0, 1, 128, 255)
	ofSort[uint32](t, 0, 1, 1<<16, 1<<31, 1<<32-1)
	ofSort(t, 0, 1, -1, 1<<32, math.MaxInt, math.MinInt)
	ofSort(t, "", "a", "aa", "ab", "\x00", "\xff", "\u00e4")
	ofSort(t, struct{}{})
	ofSort(t, [3]int{}, [3]int{1}, [3]int{0, 0, 1})
	type place struct {
		conn int
		name string
	}
	ofSort(t, place{}, place{1, ""}, place{0, "a"}, place{1, "a"})
	one, two := 5, 5
	ofSort(t, &one, &two, nil)
	ofSort(t, make(chan int), make(chan int), nil)
	ofSort[any](t, nil, 0, int8(0), "", false, 0.0, place{}, [1]any{}, [1]any{0}, &one)
	ofSort(t, math.Inf(1), math.Inf(-1), 0.0, math.SmallestNonzeroFloat64, math.MaxFloat64)
	ofSort(t, 0i, 1, 1i)
}

// ofSort: these keys, which all differ, stand beside each other and are told apart.
func ofSort[K comparable](t *testing.T, keys ...K) {
	t.Helper()
	b := made[K](t)
	for i, k := range keys {
		b.tells(t, keys...)
		if !b.add(t, k) || b.add(t, k) {
			t.Fatalf("Add(%v)", k)
		}
		b.lists(t, keys[:i+1]...)
	}
	b.answers(t, keys...)
	b.goesRound(t)
	for _, k := range keys {
		if !b.remove(t, k) || b.remove(t, k) {
			t.Fatalf("Remove(%v)", k)
		}
		b.tells(t, keys...)
		b.goesRound(t)
	}
}

// The two noughts are equal, so they are one key; it is kept as it was first handed in.
func TestP12_1_KeysThatAreEqualAreOneKey(t *testing.T) {
	nought, minus := 0.0, math.Copysign(0, -1)
	for _, first := range []float64{nought, minus} {
		b := made(t, 3, first, 4)
		b.lists(t, 3, nought, 4)
		if b.add(t, nought) || b.add(t, minus) {
			t.Fatal("Add of what is there")
		}
		b.lists(t, 3, nought, 4)
		if got := b.r.List()[1]; math.Signbit(got) != math.Signbit(first) {
			t.Errorf("the key is %v, not %v", got, first)
		}
		b.answers(t, 3, nought, 4)
		if !b.remove(t, -first) {
			t.Fatal("Remove")
		}
		b.lists(t, 3, 4)
	}
	text := []byte("ab")
	b := made(t, string(text))
	text[0] = 'x'
	if b.add(t, "a"+string(text[1:])) {
		t.Error("Add of an equal text")
	}
	b.lists(t, "ab")
}
