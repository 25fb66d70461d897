package place_test

import (
	"math"
	"slices"
	"testing"

	"culvert/api"
	"culvert/draws"
	"culvert/place"
	"culvert/sentinels"
)

func on(open, left int) api.Load { return api.Load{Live: true, Open: open, Left: left} }

func going(open, left int) api.Load {
	return api.Load{Live: true, Draining: true, Open: open, Left: left}
}

var gone = api.Load{Left: 9}

func TestP21_1_Examples(t *testing.T) {
	for _, c := range []struct {
		loads []api.Load
		want  int
		err   error
	}{
		{[]api.Load{on(1, 9), on(0, 9), on(0, 9)}, 1, nil},
		{[]api.Load{gone, on(1, 9), going(0, 9)}, 1, nil},
		{[]api.Load{on(2, 9), on(1, 0), on(1, 3)}, 2, nil},
		{nil, 0, api.ErrNoConn},
		{[]api.Load{gone, gone}, 0, api.ErrNoConn},
		{[]api.Load{gone, going(0, 9), going(5, 0)}, 0, api.ErrDraining},
		{[]api.Load{on(2, 9), going(0, 9), on(3, 0), gone}, 0, api.ErrLimit},
		{[]api.Load{on(2, 9), on(0, 0)}, 0, api.ErrExhausted},
	} {
		picks(t, c.loads, 2, c.want, c.err)
	}
}

// One connection: each thing that it needs, at its edge; what it lacks first is told.
func TestP21_1_WhatAConnectionNeeds(t *testing.T) {
	for _, c := range []struct {
		load api.Load
		most int
		err  error
	}{
		{on(0, 1), 1, nil},
		{on(0, 0), 1, api.ErrExhausted},
		{on(0, -1), 1, api.ErrExhausted},
		{on(0, math.MinInt), 1, api.ErrExhausted},
		{on(0, math.MaxInt), 1, nil},
		{on(0, 1<<32), 1, nil},
		{on(0, -1<<32+1), 1, api.ErrExhausted},

		{on(0, 1), 0, api.ErrLimit},
		{on(0, 1), -1, api.ErrLimit},
		{on(1, 1), 1, api.ErrLimit},
		{on(2, 1), 1, api.ErrLimit},
		{on(1, 1), 2, nil},
		{on(-1, 1), 0, nil},
		{on(-1, 1), -1, api.ErrLimit},
		{on(0, 1), math.MinInt, api.ErrLimit},
		{on(math.MinInt, 1), math.MinInt, api.ErrLimit},
		{on(math.MinInt, 1), math.MinInt + 1, nil},
		{on(math.MinInt, 1), math.MaxInt, nil},
		{on(math.MaxInt, 1), math.MinInt, api.ErrLimit},
		{on(math.MaxInt-1, 1), math.MaxInt, nil},
		{on(math.MaxInt, 1), math.MaxInt, api.ErrLimit},
		{on(1<<32, 1), 1, api.ErrLimit},
		{on(1, 1), 1<<32 + 1, nil},
		{on(2, 0), 2, api.ErrLimit},

		{going(0, 1), 1, api.ErrDraining},
		{going(1, 1), 1, api.ErrDraining},
		{going(0, 0), 1, api.ErrDraining},
		{going(math.MinInt, math.MaxInt), math.MaxInt, api.ErrDraining},

		{api.Load{}, 1, api.ErrNoConn},
		{api.Load{Left: 1}, 1, api.ErrNoConn},
		{api.Load{Draining: true, Left: 1}, 1, api.ErrNoConn},
		{api.Load{Draining: true, Open: 1}, 1, api.ErrNoConn},
		{api.Load{Open: math.MinInt, Left: math.MaxInt}, math.MaxInt, api.ErrNoConn},
	} {
		picks(t, []api.Load{c.load}, c.most, 0, c.err)
	}
}

// Where none may take a stream, in each order of those that lack something, the error is of the one that lacks the last thing.
func TestP21_1_WhichErrorIsTold(t *testing.T) {
	lacks := []struct {
		load api.Load
		err  error
	}{
		{on(0, 0), api.ErrExhausted}, {on(2, 9), api.ErrLimit}, {going(0, 9), api.ErrDraining}, {gone, api.ErrNoConn},
	}
	var kinds []api.Load
	for _, c := range lacks {
		kinds = append(kinds, c.load)
	}
	for size := 1; size <= 5; size++ {
		lists(kinds, size, func(loads []api.Load) {
			for _, c := range lacks {
				if slices.Contains(loads, c.load) {
					picks(t, loads, 2, 0, c.err)
					return
				}
			}
		})
	}
}

func TestP21_1_TheFirstOfSeveralWithTheLeast(t *testing.T) {
	for size := 1; size <= 6; size++ {
		for first := range size {
			loads := make([]api.Load, size)
			for k := range loads {
				loads[k] = on(3, 1+size-k)
				if k >= first {
					loads[k].Open = 1
				}
			}
			picks(t, loads, 4, first, nil)
		}
	}
}

func TestP21_1_OpensAreHeldAgainstEachOtherWhole(t *testing.T) {
	rising := []int{math.MinInt, math.MinInt + 1, -1<<32 - 1, -1 << 32, -1 << 31, -2, -1, 0, 1, 2, 1<<31 - 1, 1 << 31, 1<<32 - 1, 1 << 32, 1<<32 + 1, math.MaxInt - 2, math.MaxInt - 1}
	for i, less := range rising {
		for _, more := range rising[i+1:] {
			picks(t, []api.Load{on(more, 1), on(less, 1)}, math.MaxInt, 1, nil)
			picks(t, []api.Load{on(less, 1), on(more, 1)}, math.MaxInt, 0, nil)
			picks(t, []api.Load{on(less, 1), on(less, 1)}, math.MaxInt, 0, nil)
			picks(t, []api.Load{on(more, 1), on(less, 1)}, more, 1, nil)
			picks(t, []api.Load{on(more, 1), on(less, 1)}, less, 0, api.ErrLimit)
		}
	}
}

func TestP21_1_EachShortList(t *testing.T) {
	mosts := []int{math.MinInt, -2, -1, 0, 1, 2, 3, math.MaxInt}
	kinds := every([]int{-1, 0, 1, 2}, []int{-1, 0, 1})
	few := every([]int{0, 1}, []int{0, 1})
	for _, most := range mosts {
		for size := range 4 {
			lists(kinds, size, func(loads []api.Load) { asPlain(t, loads, most) })
		}
		lists(few, 4, func(loads []api.Load) { asPlain(t, loads, most) })
	}
}

// All answers must have come about, lest the draws are of one kind.
func TestP21_1_DrawnLists(t *testing.T) {
	d := draws.Draws(21)
	picked, failed := 0, map[error]int{}
	for range 60000 {
		loads := drawn(&d, d.Below(api.MaxConns+1), 1+d.Below(6))
		if _, err := asPlain(t, loads, number(&d)); err != nil {
			failed[err]++
		} else {
			picked++
		}
	}
	if picked < 1000 || len(failed) != 4 {
		t.Errorf("%d were picked, %v failed", picked, failed)
	}
}

func TestP21_1_ALongList(t *testing.T) {
	const size = 1 << 20
	loads := slices.Repeat([]api.Load{on(9, 9), on(5, 0), gone, going(0, 9)}, size/4)
	picks(t, loads, 10, 0, nil)
	loads[size-4].Open = 8
	picks(t, loads, 10, size-4, nil)
	picks(t, loads, 9, size-4, nil)
	picks(t, loads, 8, 0, api.ErrExhausted)
	picks(t, loads, 5, 0, api.ErrLimit)
}

// One that may not take a stream is laid in at each place, and takes another's place that may not: the same one is picked.
func TestP21_2_OneThatMayNotTakeAStreamChangesNothing(t *testing.T) {
	const most = 2
	kinds := every([]int{-1, 0, 1, 2, math.MinInt, math.MaxInt}, []int{-1, 0, 1, math.MinInt, math.MaxInt})
	able := []api.Load{on(-1, 1), on(0, 1), on(1, 1), on(1, 5)}
	for _, l := range kinds {
		if may(l, most) {
			continue
		}
		for size := 1; size <= 3; size++ {
			lists(able, size, func(loads []api.Load) {
				want, err := place.Pick(loads, most)
				if err != nil {
					t.Fatalf("Pick(%v): %v", loads, err)
				}
				for at := range size + 1 {
					shifted := want
					if at <= want {
						shifted++
					}
					picks(t, slices.Insert(slices.Clone(loads), at, l), most, shifted, nil)
				}
			})
		}
	}
}

// All that may not take a stream are left out, or made others that may not.
func TestP21_2_AllThatMayNotAreLeftOut(t *testing.T) {
	d := draws.Draws(212)
	for range 20000 {
		most := d.Below(9) - 1
		loads := drawn(&d, d.Below(20), 2+d.Below(4))
		k, err := place.Pick(loads, most)
		if err != nil {
			continue
		}
		var able []api.Load
		ahead := 0
		for i, l := range loads {
			if may(l, most) {
				able = append(able, l)
				if i < k {
					ahead++
				}
			} else {
				loads[i] = []api.Load{{}, gone, going(-5, 9), on(most, 9), on(most-1, 0), on(math.MinInt, -1)}[d.Below(6)]
			}
		}
		picks(t, able, most, ahead, nil)
		picks(t, loads, most, k, nil)
	}
}

func TestP21_2_HowManyNumbersAreLeftChangesNothing(t *testing.T) {
	lefts := []int{1, 2, 3, 1 << 31, 1 << 32, math.MaxInt}
	d := draws.Draws(213)
	for range 20000 {
		most := number(&d)
		loads := drawn(&d, d.Below(12), 2+d.Below(4))
		k, err := asPlain(t, loads, most)
		for i := range loads {
			if loads[i].Left >= 1 {
				loads[i].Left = lefts[d.Below(len(lefts))]
			}
		}
		picks(t, loads, most, k, err)
	}
}

// fill places streams till none may take one more, and looks behind each at what P21.3 says; how many were placed.
func fill(t *testing.T, loads []api.Load, most int) int {
	t.Helper()
	got := map[int]bool{}
	for placed := 0; ; placed++ {
		k, err := asPlain(t, loads, most)
		if err != nil {
			return placed
		}
		loads[k].Open++
		got[k] = true
		greatest, least := math.MinInt, math.MaxInt
		for i, l := range loads {
			if got[i] {
				greatest = max(greatest, l.Open)
			}
			if may(l, most) {
				least = min(least, l.Open)
			}
		}
		if least != math.MaxInt && greatest > least+1 {
			t.Fatalf("%v with most %d: %d is above %d by more than one", loads, most, greatest, least)
		}
	}
}

func TestP21_3_FairFromEachShortList(t *testing.T) {
	const most = 4
	kinds := []api.Load{on(-2, 1), on(0, 7), on(1, 1), on(2, 3), on(3, 1)}
	for size := 1; size <= 4; size++ {
		lists(kinds, size, func(list []api.Load) {
			loads := slices.Clone(list)
			room := 0
			for _, l := range loads {
				room += most - l.Open
			}
			if n := fill(t, loads, most); n != room {
				t.Fatalf("%v took %d streams, and there was room for %d", list, n, room)
			}
			picks(t, loads, most, 0, api.ErrLimit)
		})
	}
}

func TestP21_3_FairFromDrawnLists(t *testing.T) {
	d := draws.Draws(214)
	for range 300 {
		most := d.Below(12) - 3
		loads := make([]api.Load, 1+d.Below(api.MaxConns))
		for k := range loads {
			loads[k] = on(most-1-d.Below(10), 1+d.Below(3))
		}
		fill(t, loads, most)
	}
}

// From nothing on, they go round.
func TestP21_3_FromEmptyConnectionsInTurns(t *testing.T) {
	loads := slices.Repeat([]api.Load{on(0, 100)}, 5)
	for i := range 5 * 7 {
		picks(t, loads, 7, i%5, nil)
		loads[i%5].Open++
	}
	picks(t, loads, 7, 0, api.ErrLimit)
}

func TestR5_NilAndEmptyMeanTheSame(t *testing.T) {
	for _, empty := range [][]api.Load{nil, {}, {on(0, 9)}} {
		for _, most := range []int{math.MinInt, -1, 0, 1, math.MaxInt} {
			picks(t, empty[:0], most, 0, api.ErrNoConn)
		}
	}
}

// What lies ahead of the list in its memory, and in its spare room, is neither looked at nor changed.
func TestR6_TheRoomAroundTheListIsLeftAlone(t *testing.T) {
	room := []api.Load{on(-9, 9), on(2, 9), gone, on(1, 9), on(1, 0), on(-9, 9), on(-9, 9)}
	before := slices.Clone(room)
	picks(t, room[1:5], 3, 2, nil)
	picks(t, room[1:5], 1, 0, api.ErrLimit)
	picks(t, room[1:3], 2, 0, api.ErrLimit)
	picks(t, room[4:5], 2, 0, api.ErrExhausted)
	if !slices.Equal(room, before) {
		t.Errorf("the room has become %v", room)
	}
}

// What was asked ahead of it changes no answer.
func TestR9_AnAnswerHangsOnItsArgumentsAlone(t *testing.T) {
	loads := []api.Load{on(1, 9), on(0, 0), on(0, 9)}
	others := [][]api.Load{nil, {gone}, {on(0, 9)}, {going(0, 9)}, {on(0, 0)}}
	for _, other := range others {
		for _, most := range []int{math.MinInt, 0, 1, math.MaxInt} {
			place.Pick(other, most)
			for range 3 {
				if k, err := place.Pick(loads, 2); k != 2 || !sentinels.Just(err, nil) {
					t.Fatalf("behind Pick(%v, %d): %d, %v", other, most, k, err)
				}
			}
		}
	}
}
