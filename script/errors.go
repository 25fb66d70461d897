package script

import (
	"errors"

	"culvert/api"
)

// failure is what a command gives up with.
type failure struct {
	err    error
	behind string // what is told behind the error's line
}

// told: the answer of a command that went wrong.
func (f failure) told() string { return say("error", wordOf(f.err)) + f.behind }

// giveUp: the command ends here; its answer is the error's.
func giveUp(err error) { panic(failure{err: err}) }

// must: what was called has not failed, or the command gives up.
func must(err error) {
	if err != nil {
		giveUp(err)
	}
}

// wordOf: an error as answers name it; two words of a violation.
func wordOf(err error) string {
	var v *api.Violation
	if errors.As(err, &v) {
		return nameOf(api.ErrProtocol) + " " + nameOf(v.Why)
	}
	return nameOf(err)
}

// nameOf: the name of the sentinel in the error, without Err, in small letters.
func nameOf(err error) string {
	for _, s := range []struct {
		err  error
		name string
	}{
		{api.ErrNil, "nil"}, {api.ErrRange, "range"}, {api.ErrShort, "short"},
		{api.ErrOverflow, "overflow"}, {api.ErrUnderflow, "underflow"},
		{api.ErrFull, "full"}, {api.ErrEmpty, "empty"}, {api.ErrTwice, "twice"},
		{api.ErrMissing, "missing"}, {api.ErrConfig, "config"},

		{api.ErrVersion, "version"}, {api.ErrType, "type"}, {api.ErrFlags, "flags"},
		{api.ErrID, "id"}, {api.ErrLength, "length"}, {api.ErrWindow, "window"},
		{api.ErrCredit, "credit"}, {api.ErrParity, "parity"}, {api.ErrReused, "reused"},
		{api.ErrUnknown, "unknown"}, {api.ErrFlood, "flood"}, {api.ErrPing, "ping"},

		{api.ErrState, "state"}, {api.ErrClosed, "closed"}, {api.ErrEOF, "eof"},
		{api.ErrReset, "reset"}, {api.ErrCut, "cut"}, {api.ErrProtocol, "protocol"},
		{api.ErrPeer, "peer"}, {api.ErrAway, "away"}, {api.ErrLimit, "limit"},
		{api.ErrExhausted, "exhausted"}, {api.ErrNoStream, "nostream"}, {api.ErrDead, "dead"},

		{api.ErrNoConn, "noconn"}, {api.ErrDraining, "draining"},
		{api.ErrLive, "live"}, {api.ErrHandle, "handle"},

		{api.ErrHistory, "history"}, {api.ErrWord, "word"},
		{api.ErrArgument, "argument"}, {api.ErrMany, "many"},
	} {
		if errors.Is(err, s.err) {
			return s.name
		}
	}
	return ""
}
