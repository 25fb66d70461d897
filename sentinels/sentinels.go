// Package sentinels tells whether an error is just the one that a call must fail with, or the violation (DOC.md, R2). The layers' tests use it; no layer does.
package sentinels

import (
	"errors"
	"slices"

	"culvert/api"
)

// All: every sentinel of api.
func All() []error {
	return []error{
		api.ErrNil, api.ErrRange, api.ErrShort, api.ErrOverflow, api.ErrUnderflow,
		api.ErrFull, api.ErrEmpty, api.ErrTwice, api.ErrMissing, api.ErrConfig,

		api.ErrVersion, api.ErrType, api.ErrFlags, api.ErrID, api.ErrLength, api.ErrWindow,
		api.ErrCredit, api.ErrParity, api.ErrReused, api.ErrUnknown, api.ErrFlood, api.ErrPing,

		api.ErrState, api.ErrClosed, api.ErrEOF, api.ErrReset, api.ErrCut, api.ErrProtocol,
		api.ErrPeer, api.ErrAway, api.ErrLimit, api.ErrExhausted, api.ErrNoStream, api.ErrDead,

		api.ErrNoConn, api.ErrDraining, api.ErrLive, api.ErrHandle,

		api.ErrHistory, api.ErrWord, api.ErrArgument, api.ErrMany,
	}
}

// Just: does errors.Is find want in err, and no other sentinel? Of a nil want: is err nil?
func Just(err, want error) bool {
	if want == nil {
		return err == nil
	}
	return finds(err, want)
}

// Breach: is err a violation on this stream, in which errors.Is finds ErrProtocol and why, and no other sentinel?
func Breach(err error, stream uint32, why error) bool {
	var v *api.Violation
	if !errors.As(err, &v) || v == nil {
		return false
	}
	return v.Stream == stream && v.Why == why && finds(err, api.ErrProtocol, why)
}

// finds: does errors.Is find all of wants in err, and no other sentinel?
func finds(err error, wants ...error) bool {
	for _, s := range All() {
		if errors.Is(err, s) != slices.Contains(wants, s) {
			return false
		}
	}
	for _, want := range wants { // one that is no sentinel
		if !errors.Is(err, want) {
			return false
		}
	}
	return true
}
