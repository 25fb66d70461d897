package clock

import (
	"cmp"
	"slices"
)

// record is what is kept of a connection.
type record struct {
	life    int
	due     int    // when it is pinged next
	waiting []ping // in the order in which they were asked, in which their tokens rise
}

// ping is one that waits for its answer.
type ping struct {
	token uint32
	asked int // when
}

// heard: these tokens wait no more; those that don't wait are somebody else's.
func (r *record) heard(tokens []uint32) {
	for _, token := range tokens {
		at, waits := slices.BinarySearchFunc(r.waiting, token, func(p ping, token uint32) int { return cmp.Compare(p.token, token) })
		if waits {
			r.waiting = slices.Delete(r.waiting, at, at+1)
		}
	}
}

// eldest: when the first of the pings that wait was asked; false: none waits.
func (r *record) eldest() (int, bool) {
	if len(r.waiting) == 0 {
		return 0, false
	}
	return r.waiting[0].asked, true
}
