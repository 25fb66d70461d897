package script_test

import (
	"testing"

	"culvert/api"
	"culvert/specimens"
)

// Both directions of a stream, from the first byte to the end that is told.
func TestP25_1_TheHistoryOfBothDirections(t *testing.T) {
	begun(t, one+"open\n").talk(t,
		"history", "",
		"write 1 abcdefghijk", "took 8", "history", "1 written 8 read 0",
		"write 1 k", "took 0", "history", "1 written 8 read 0",
		"rounds 3", "ok", "far 0 accept", "id 1", "history", "1 written 8 read 0",
		"far 0 read 1 2", "gave ab", "history", "1 written 8 read 2",
		"far 0 read 1 0", "gave %", "far 0 read 1 9", "gave cd", "history", "1 written 8 read 4",
		"far 0 write 1 xy", "took 2", "history", "-1 written 2 read 0\n1 written 8 read 4",
		"rounds 9", "ok", "read 1 1", "gave x", "history", "-1 written 2 read 1\n1 written 8 read 4",
		"far 0 close 1", "ok", "history", "-1 written 2 read 1 closed\n1 written 8 read 4",
		"close 1", "ok", "history", "-1 written 2 read 1 closed\n1 written 8 read 4 closed",
		"rounds 9", "ok", "read 1 9", "gave y", "read 1 9", "error eof", "history", "-1 written 2 read 2 closed ended\n1 written 8 read 4 closed",
		"read 1 9", "error handle", "history", "-1 written 2 read 2 closed ended\n1 written 8 read 4 closed",
		"far 0 read 1 9", "gave efgh", "far 0 read 1 9", "error eof", "history", "-1 written 2 read 2 closed ended\n1 written 8 read 8 closed ended",
		"far 0 read 1 9", "error nostream", "history", "-1 written 2 read 2 closed ended\n1 written 8 read 8 closed ended",
	)
}

// A key is known from the first call on that doesn't fail, also where no byte is told; an end is told as often as it is asked for.
func TestP25_1_TheHistoryKnowsAKeyFromTheFirstCallOn(t *testing.T) {
	begin := one + "open\nrounds 1\nfar 0 accept\n"
	for line, want := range map[string]string{
		"write 1 %": "1 written 0 read 0", "close 1": "1 written 0 read 0 closed", "read 1 0": "-1 written 0 read 0", "read 1 5": "-1 written 0 read 0",
		"far 0 write 1 %": "-1 written 0 read 0", "far 0 close 1": "-1 written 0 read 0 closed", "far 0 read 1 0": "1 written 0 read 0", "far 0 read 1 5": "1 written 0 read 0",
		"reset 1": "", "far 0 reset 1": "", "where 1": "", "rounds 5": "", "cut 0": "", "far 0 ping": "", "far 0 step": "", "streams 0 1": "", "far 0 open": "",
		"read 1 -1": "", "read 2 1": "", "write 2 a": "", "close 2": "", "far 0 read 1 -1": "", "far 0 read 3 1": "", "far 0 write 3 a": "", "far 0 close 3": "", "write 1 %zz": "", "far 0 write 1": "",
	} {
		b := begun(t, begin)
		b.line(t, line)
		b.talk(t, "history", want)
	}
	begun(t, begin+"close 1\nrounds 1\n").talk(t, "far 0 read 1 1", "error eof", "far 0 read 1 1", "error eof", "history", "1 written 0 read 0 closed ended")
}

// What goes wrong is not told: a write or a close behind the end, behind a reset, behind a cut.
func TestP25_1_TheHistoryIsToldNothingOfWhatGoesWrong(t *testing.T) {
	b := begun(t, one+"open\nwrite 1 ab\nrounds 2\nfar 0 accept\nfar 0 write 1 xy\nrounds 3\nread 1 1\nfar 0 read 1 1\n")
	const before = "-1 written 2 read 1\n1 written 2 read 1"
	b.talk(t, "history", before, "cut 0", "ok",
		"write 1 c", "error cut", "close 1", "error cut", "far 0 write 1 c", "error cut", "far 0 close 1", "error cut", "history", before,
		"read 1 9", "gave y", "far 0 read 1 9", "gave b", "history", "-1 written 2 read 2\n1 written 2 read 2",
		"read 1 9", "error cut", "far 0 read 1 9", "error cut", "history", "-1 written 2 read 2\n1 written 2 read 2")
	b = begun(t, one+"open\nrounds 1\nfar 0 accept\nfar 0 reset 1\nrounds 2\n")
	b.talk(t, "write 1 a", "error reset", "close 1", "error handle", "history", "")
	b = begun(t, one+"open\nwrite 1 a\nclose 1\nrounds 1\nfar 0 accept\nfar 0 close 1\n")
	b.talk(t, "write 1 b", "error closed", "close 1", "error closed", "far 0 write 1 b", "error closed", "far 0 close 1", "error closed", "history", "-1 written 0 read 0 closed\n1 written 1 read 0 closed")
}

// The far end's stream has a handle also where that is one no more: open has answered it.
func TestP25_1_TheFarEndsStreamKeepsItsHandle(t *testing.T) {
	b := begun(t, one+"open\nwrite 1 abc\nrounds 3\nfar 0 accept\nreset 1\n")
	b.talk(t, "where 1", "error handle", "far 0 read 1 2", "gave ab", "far 0 write 1 x", "took 1", "far 0 close 1", "ok", "history", "-1 written 1 read 0 closed\n1 written 3 read 2")
	b = begun(t, one+"open\nwrite 1 abc\nclose 1\nrounds 3\nfar 0 accept\nfar 0 close 1\nrounds 3\n")
	b.talk(t, "read 1 1", "error eof", "where 1", "error handle", "far 0 read 1 9", "gave abc", "far 0 read 1 9", "error eof", "history", "-1 written 0 read 0 closed ended\n1 written 3 read 3 closed ended")
	b = begun(t, one+"open\nwrite 1 abc\nrounds 3\nfar 0 accept\ncut 0\n") // the connection is cut, but no other stands in its place yet
	b.talk(t, "far 0 read 1 9", "gave abc", "history", "1 written 3 read 3")
	b = begun(t, "new 1 2 4 8 3 4 2 1 64 0\nconnect 0\nopen\nopen\nwrite 2 ab\nwrite 1 c\nrounds 9\nfar 0 accept\nfar 0 accept\nreset 1\nopen\nrounds 9\nfar 0 accept\n")
	b.talk(t, "far 0 read 3 9", "gave ab", "far 0 write 5 z", "took 1", "history", "-3 written 1 read 0\n1 written 1 read 0\n2 written 2 read 2")
}

// The same id has another handle at another place, and in another life.
func TestP25_1_TheHandleIsOfItsPlaceAndLife(t *testing.T) {
	b := begun(t, two+"open\nopen\nrounds 1\nfar 0 accept\nfar 1 accept\n")
	b.talk(t, "far 0 write 1 a", "took 1", "far 1 write 1 bc", "took 2", "history", "-2 written 2 read 0\n-1 written 1 read 0")
	b.talk(t, "cut 0", "ok", "connect 0", "ok", "open", "handle 3", "where 3", "at 0 2 1", "rounds 1", "ok", "far 0 accept", "id 1",
		"far 0 write 1 def", "took 3", "far 1 close 1", "ok", "history", "-3 written 3 read 0\n-2 written 2 read 0 closed\n-1 written 1 read 0")
	b = begun(t, two+"open\nrounds 1\nfar 0 accept\ncut 0\nconnect 0\n")
	for k := range 2 { // neither in place 0's second life nor at place 1 has open answered anything
		b.says(t, injected(k, specimens.Data(api.FlagSYN|api.FlagFIN, 1, "ab")), "ok\n")
	}
	b.talk(t, "far 0 accept", "id 1", "far 1 accept", "id 1")
	for _, k := range []string{"0", "1"} {
		b.talk(t, "far "+k+" read 1 9", "gave ab", "far "+k+" read 1 9", "error eof", "far "+k+" write 1 x", "took 1", "far "+k+" close 1", "ok", "history", "")
	}
	b.talk(t, "open", "handle 2", "where 2", "at 0 2 1", "far 0 read 1 9", "error eof\nhistory", "history", "") // now it has a handle
}

// A drained connection makes way for a new one, too.
func TestP25_1_TheHandlesOfADrainedConnectionGo(t *testing.T) {
	b := begun(t, one+"open\nwrite 1 ab\nrounds 9\nfar 0 accept\nfar 0 away\nrounds 2\nreset 1\nfar 0 read 1 1\n")
	b.talk(t, "history", "1 written 2 read 1", "connect 0", "ok", "far 0 read 1 1", "error nostream")
	b.says(t, injected(0, specimens.Data(api.FlagSYN, 1, "b")), "ok\n")
	b.talk(t, "far 0 accept", "id 1", "far 0 read 1 1", "gave b", "history", "1 written 2 read 1")
}

// The far end's own streams have no handle here, and those that inject opens have none.
func TestP25_1_StreamsWithoutAHandleAreInNoHistory(t *testing.T) {
	b := begun(t, one+"far 0 open\nfar 0 write 2 abc\nrounds 9\n")
	b.says(t, injected(0, specimens.Data(api.FlagFIN, 2, "xyz")), "ok\n")
	b.talk(t, "far 0 read 2 9", "gave xyz", "far 0 read 2 9", "error eof", "far 0 close 2", "ok", "history", "")
	b.says(t, injected(0, specimens.Data(api.FlagSYN, 7, "q")), "ok\n")
	b.talk(t, "far 0 accept", "id 7", "far 0 read 7 9", "gave q", "far 0 write 7 abc", "took 3", "history", "")
}

// What inject brings may be what nobody wrote: then the history says so, and stays as it was.
func TestP25_1_TheHistoryRefusesWhatWasNotWritten(t *testing.T) {
	begin := one + "open\nwrite 1 abcd\nrounds 2\nfar 0 accept\n"
	b := begun(t, begin) // "abc" has come
	b.says(t, injected(0, specimens.Data(0, 1, "x")), "ok\n")
	b.talk(t, "far 0 read 1 2", "gave ab", "history", "1 written 4 read 2",
		"far 0 read 1 9", "gave cx\nhistory", "history", "1 written 4 read 2",
		"far 0 read 1 0", "gave %", "history", "1 written 4 read 2",
		"rounds 9", "ok", "far 0 read 1 9", "gave d\nhistory", "history", "1 written 4 read 2") // the history waits for c
	b = begun(t, begin)
	b.says(t, injected(0, specimens.Data(0, 1, "d")), "ok\n")
	b.talk(t, "far 0 read 1 9", "gave abcd", "history", "1 written 4 read 4") // as if it had come
	b = begun(t, begin)
	b.says(t, injected(0, specimens.Data(api.FlagFIN, 1, "")), "ok\n")
	b.talk(t, "far 0 read 1 9", "gave abc", "far 0 read 1 9", "error eof\nhistory", "history", "1 written 4 read 3",
		"far 0 read 1 9", "error eof\nhistory", "close 1", "ok", "far 0 read 1 9", "error eof\nhistory", "history", "1 written 4 read 3 closed")
	b = begun(t, begin+"far 0 read 1 9\n")
	b.says(t, injected(0, specimens.Data(api.FlagFIN, 1, "d")), "ok\n")
	b.talk(t, "far 0 read 1 9", "gave d", "far 0 read 1 9", "error eof\nhistory", "close 1", "ok", "far 0 read 1 9", "error eof", "history", "1 written 4 read 4 closed ended")
	b = begun(t, one+"open\nrounds 1\nfar 0 accept\n")
	b.says(t, injected(0, specimens.Data(api.FlagFIN, 1, "x")), "ok\n")
	b.talk(t, "far 0 read 1 9", "gave x\nhistory", "history", "", "far 0 read 1 9", "error eof\nhistory", "history", "")
}

// The near end can hear what has no history, too: of a stream that inject has opened at the far end ahead of open.
func TestP25_1_TheHistoryRefusesAtTheNearEnd(t *testing.T) {
	b := begun(t, one)
	b.says(t, injected(0, specimens.Data(api.FlagSYN, 1, "")), "ok\n")
	b.talk(t, "far 0 accept", "id 1", "far 0 write 1 ab", "took 2", "far 0 close 1", "ok",
		"far 0 step", "step 1", "far 0 step", "step 1", "far 0 send 99", "moved 26",
		"open", "handle 1", "rounds 1", "ok", "far 0 open", "error protocol reused",
		"read 1 1", "gave a\nhistory", "history", "", "read 1 9", "gave b\nhistory", "read 1 9", "error eof\nhistory", "history", "",
		"read 1 0", "gave %", "history", "-1 written 0 read 0", "read 1 9", "error eof\nhistory", "history", "-1 written 0 read 0")
}
