package place_test

import (
	"math"
	"slices"
	"testing"

	"culvert/api"
	"culvert/draws"
	"culvert/place"
	"culvert/sentinels"
)

// may: may the connection take a stream, by the chapter's words?
func may(l api.Load, most int) bool { return l.Live && !l.Draining && l.Open < most && l.Left >= 1 }

// plain is Pick by the chapter's words, one after the other.
func plain(loads []api.Load, most int) (int, error) {
	var opens []int // of those that may take one
	for _, l := range loads {
		if may(l, most) {
			opens = append(opens, l.Open)
		}
	}
	if len(opens) > 0 {
		fewest := slices.Min(opens)
		return slices.IndexFunc(loads, func(l api.Load) bool { return may(l, most) && l.Open == fewest }), nil
	}
	some := func(is func(l api.Load) bool) bool { return slices.ContainsFunc(loads, is) }
	switch {
	case !some(func(l api.Load) bool { return l.Live }):
		return 0, api.ErrNoConn
	case !some(func(l api.Load) bool { return l.Live && !l.Draining }):
		return 0, api.ErrDraining
	case !some(func(l api.Load) bool { return l.Live && !l.Draining && l.Open < most }):
		return 0, api.ErrLimit
	}
	return 0, api.ErrExhausted
}

// picks: Pick must answer so, and leave what it was handed as it was (R2, R3, R6).
func picks(t *testing.T, loads []api.Load, most, want int, wantErr error) {
	t.Helper()
	before := slices.Clone(loads)
	if k, err := place.Pick(loads, most); k != want || !sentinels.Just(err, wantErr) {
		t.Fatalf("Pick(%v, %d): %d, %v, want %d, %v", loads, most, k, err, want, wantErr)
	}
	if !slices.Equal(loads, before) {
		t.Fatalf("Pick(%v, %d) has made %v of them", before, most, loads)
	}
}

// asPlain: Pick must answer as the plain one does; it is answered.
func asPlain(t *testing.T, loads []api.Load, most int) (int, error) {
	t.Helper()
	want, wantErr := plain(loads, most)
	picks(t, loads, most, want, wantErr)
	return want, wantErr
}

// every: each load that has one of these for its Open and one of those for its Left.
func every(opens, lefts []int) []api.Load {
	var all []api.Load
	for _, open := range opens {
		for _, left := range lefts {
			for _, live := range []bool{false, true} {
				for _, draining := range []bool{false, true} {
					all = append(all, api.Load{Live: live, Draining: draining, Open: open, Left: left})
				}
			}
		}
	}
	return all
}

// lists: each list of this many of the kinds. It is one list, written over for each call.
func lists(kinds []api.Load, size int, each func(loads []api.Load)) {
	list := make([]api.Load, size)
	var fill func(at int)
	fill = func(at int) {
		if at == size {
			each(list)
			return
		}
		for _, l := range kinds {
			list[at] = l
			fill(at + 1)
		}
	}
	fill(0)
}

// number: small as a rule, at times an edge of what an int can be.
func number(d *draws.Draws) int {
	edges := []int{math.MinInt, math.MinInt + 1, -1 << 32, -1, 0, 1, 1<<32 - 1, 1 << 32, math.MaxInt - 1, math.MaxInt}
	if d.Below(8) == 0 {
		return edges[d.Below(len(edges))]
	}
	return d.Below(9) - 2
}

// drawn: so many loads, of which about one in rare lacks what it needs to take a stream, thing by thing.
func drawn(d *draws.Draws, size, rare int) []api.Load {
	loads := make([]api.Load, size)
	for k := range loads {
		loads[k] = api.Load{Live: d.Below(rare) > 0, Draining: d.Below(rare) == 0, Open: number(d), Left: 1 + d.Below(5)}
		if d.Below(rare) == 0 {
			loads[k].Left = number(d)
		}
	}
	return loads
}
