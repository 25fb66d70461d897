package script_test

import (
	"fmt"
	"slices"
	"strings"
	"testing"

	"culvert/api"
	"culvert/script"
	"culvert/sentinels"
	"culvert/specimens"
)

// The small pools of the tests: one place and two, with the configuration of the document's examples.
const (
	one = "new 1 1 4 8 3 2 1 1 64 0\nconnect 0\n"
	two = "new 2 2 4 8 3 4 2 1 64 0\nconnect 0\nconnect 1\n"
)

// injected: a line that brings frames to the far end of a place.
func injected(k int, frames ...api.Frame) string {
	return fmt.Sprintf("far %d inject %s", k, textOf(string(specimens.Bytes(frames...))))
}

// The chapter's example.
func TestP25_1_Examples(t *testing.T) {
	made().talk(t,
		"# two connections", "",
		"new 2 2 4 8 3 4 2 1 64 0", "ok",
		"open", "error noconn",
		"connect 0", "ok",
		"open", "handle 1",
		"write 1 hello%20there", "took 8",
		"rounds 3", "ok",
		"far 0 accept", "id 1",
		"far 0 read 1 9", "gave hell",
		"far 0 write 1 %00%ff", "took 2",
		"rounds 3", "ok",
		"read 1 9", "gave %00%ff",
		"where 1", "at 0 1 1",
		"conn 0", "life 1 live open 1 left 2147483647",
		"far 0 inject %00%09", "ok",
		"streams 0 1", "streams 1",
		"history", "-1 written 2 read 2\n1 written 8 read 4",
		"open now", "error many",
		"jump", "error word",
		"read 1 -1", "error range",
		"read one 1", "error argument",
	)
}

// The tenth of the document's examples of the whole, and the ninth, by text.
func TestP25_1_ExamplesOfTheWhole(t *testing.T) {
	made().talk(t,
		"new 1 1 4 8 3 2 1 1 64 0", "ok",
		"connect 0", "ok",
		"open", "handle 1",
		"write 1 ab", "took 2",
		"rounds 2", "ok",
		"far 0 accept", "id 1",
		"far 0 read 1 9", "gave ab",
		"close 1", "ok",
		"rounds 1", "ok",
		"far 0 read 1 9", "error eof",
		"history", "1 written 2 read 2 closed ended",
	)
	begun(t, two).talk(t,
		"open", "handle 1", "open", "handle 2", "open", "handle 3", "open", "handle 4",
		"where 1", "at 0 1 1", "where 2", "at 1 1 1", "where 3", "at 0 1 3", "where 4", "at 1 1 3",
		"open", "error limit",
		"far 0 away", "ok",
		"rounds 1", "ok",
		"reset 4", "ok",
		"open", "handle 5",
		"where 5", "at 1 1 5",
	)
}

// A line's words are what stands between blanks; every byte but the three of them belongs to a word.
func TestP25_1_Blanks(t *testing.T) {
	for _, c := range []struct{ line, want string }{
		{"", ""}, {" ", ""}, {"\t", ""}, {"\r", ""}, {" \t\r \r\t ", ""},
		{"open", "error nil\n"}, {" open", "error nil\n"}, {"open ", "error nil\n"}, {"\r\topen\t \r", "error nil\n"},
		{"read\t1\r2", "error nil\n"}, {"read \t\r 1 \t\r 2", "error nil\n"},
		{"#", ""}, {"#open", ""}, {"# open", ""}, {" \t#\ropen", ""}, {"##", ""}, {"#\n", ""}, {"#\xff", ""},
		{"open #", "error many\n"}, {"read 1 #", "error argument\n"}, {"far #", "error many\n"}, {"far 1 #", "error word\n"}, {"x#", "error word\n"},
	} {
		made().says(t, c.line, c.want)
	}
	for c := range 256 {
		b := string([]byte{byte(c)})
		switch c {
		case ' ', '\t', '\r':
			made().says(t, "read"+b+"1"+b+"2", "error nil\n")
			made().says(t, b, "")
			continue
		case '#':
			made().says(t, b, "")
		default:
			made().says(t, b, "error word\n")
			made().says(t, b+"open", "error word\n")
		}
		made().says(t, "open"+b, "error word\n")
		made().says(t, "open "+b, "error many\n")
	}
	for _, no := range []string{"\u0085", "\u00a0", "\u2003", "\u2028", "\ufeff", "\xe2\x80", "\n", "\x00", "\v", "\f"} { // blanks elsewhere
		made().says(t, "read"+no+"1"+no+"2", "error word\n")
		made().says(t, "open"+no, "error word\n")
		made().says(t, "rounds 1"+no, "error argument\n")
		made().says(t, "#"+no+"open", "")
	}
}

// The first of the errors is the bound on a line's length: ahead of a remark too.
func TestP25_1_Limit(t *testing.T) {
	for _, begin := range []string{"", "#", "open", "jump", "far 0 jump", "open now", "read one 1", "rounds 1", "write 1 a", "new 1 1 4 8 3 2 1 1 64 0"} {
		for _, fill := range []string{" ", "\t", "\n", "a", "%", "\xff", "#"} {
			line := begin + strings.Repeat(fill, api.MaxLine+1-len(begin))
			made().says(t, line, "error limit\n")
			made().line(t, line[:api.MaxLine])
			made().says(t, strings.Repeat(line, 2), "error limit\n")
		}
	}
	b := begun(t, "new 1 1 70000 70000 65536 2 1 1 1048576 0\nconnect 0\nopen\n")
	long := "write 1 " + strings.Repeat("x", api.MaxLine-8)
	b.says(t, long+"x", "error limit\n")
	b.says(t, long, "took 65528\n")
	b.says(t, "history", "1 written 65528 read 0\n")
	b.talk(t, "rounds 2", "ok", "far 0 accept", "id 1")
	b.says(t, "far 0 read 1 70000", "gave "+long[8:]+"\n") // an answer has no bound
}

// ErrWord: the first word is no command; behind far the third.
func TestP25_1_Word(t *testing.T) {
	known := map[string]int{}
	for _, f := range forms {
		known[strings.Fields(f)[0]]++
	}
	for _, word := range []string{"Open", "OPEN", "opens", "ope", "o", "open,", "accept", "step", "ping", "pongs", "away", "send", "pass", "inject", "near", "Far", "%", "%6fpen", "0", "-1", "news", "\"open\"", "far\n0"} {
		for _, behind := range []string{"", " 1", " x y", " 1 2 3 4 5 6 7 8 9 10"} {
			made().says(t, word+behind, "error word\n")
		}
	}
	for _, word := range []string{"new", "connect", "cut", "rounds", "where", "conn", "streams", "history", "far", "Open", "jump", "opens", "-", "0", "%"} {
		for _, behind := range []string{"", " 1", " x y"} {
			made().says(t, "far 0 "+word+behind, "error word\n")
			made().says(t, "far x "+word+behind, "error word\n")
		}
	}
	for word := range known { // none of the commands is one of these
		if got := made().line(t, word); got == "error word\n" {
			t.Errorf("%q: %q", word, got)
		}
	}
}

// filled: a form's words, with right ones where it has capitals.
func filled(form string) []string {
	words := strings.Fields(form)
	for i, word := range words {
		if right := map[string]string{"K": "0", "H": "1", "N": "1", "ID": "1", "TEXT": "a"}[word]; right != "" {
			words[i] = right
		}
	}
	return words
}

// ErrMany goes behind ErrWord, and ahead of ErrArgument: whatever the words are.
func TestP25_1_Many(t *testing.T) {
	for _, form := range forms {
		words := filled(form)
		command := 1
		if words[0] == "far" {
			command = 3
		}
		for _, junk := range []string{"1", "x", "#", "%zz"} {
			for n := 1; n < 14; n++ {
				line := slices.Clone(words[:min(n, len(words))])
				for len(line) < n {
					line = append(line, junk)
				}
				for i := command; i < min(n, len(words)); i++ {
					line[i] = junk
				}
				got := made().line(t, strings.Join(line, " "))
				if many := got == "error many\n"; many != (n != len(words)) {
					t.Errorf("%q: %q", line, got)
				}
			}
		}
	}
	made().talk(t, "far", "error many", "far x", "error many", "far far", "error many", "far open", "error many")
}

// ErrArgument goes ahead of what the call fails with: each word of each command, with what it may be and what it may not.
func TestP25_1_Argument(t *testing.T) {
	numbers := map[string]bool{
		"0": true, "1": true, "-1": true, "9": true, "10": true, "-10": true, "4294967295": true, "4294967296": true, "65536": true,
		"9223372036854775807": true, "-9223372036854775808": true, "9223372036854775808": false, "-9223372036854775809": false, "18446744073709551616": false,
		"99999999999999999999999999": false, "-0": false, "00": false, "01": false, "-01": false, "+1": false, "+0": false, "--1": false, "-": false, "+": false,
		"1-": false, "1.0": false, "1e1": false, "0x1": false, "0b1": false, "0o1": false, "1_0": false, "1,0": false, "x": false, "%": false, "%31": false, "1\n": false, "\n1": false,
		"١": false, "１": false, "\xff": false, "1\x00": false, "NaN": false, "one": false,
	}
	texts := map[string]bool{
		"%": true, "a": true, "0": true, "-1": true, "#": true, "~": true, "!": true, "%20": true, "%00%ff": true, "%25": true, "a%7fb": true, "$&": true, "\"": true, "\\n": true,
		"%%": false, "%4": false, "%41": false, "%FF": false, "%fF": false, "a%": false, "%a": false, "%2": false, "%zz": false, "%+1": false, "%0x": false, "%21": false, "%7e": false,
		"\xff": false, "é": false, "a\n": false, "\n": false, "\x7f": false, "\x00": false, "%%25": false, "%25%": false, "%0": false, "%-1": false, "%_1": false,
	}
	for _, form := range forms {
		for i, what := range strings.Fields(form) {
			words := filled(form)
			for word, right := range map[string]map[string]bool{"K": numbers, "H": numbers, "N": numbers, "ID": numbers, "TEXT": texts}[what] {
				words[i] = word
				if what == "ID" && (word[0] == '-' || word == "4294967296" || word == "9223372036854775807") {
					right = false
				}
				got := made().line(t, strings.Join(words, " "))
				if argument := got == "error argument\n"; argument == right {
					t.Errorf("%q: %q", words, got)
				}
			}
		}
	}
}

// Without a pool each call fails with ErrNil; the history is empty.
func TestP25_1_WithoutAPool(t *testing.T) {
	for _, form := range forms[1:] {
		want := "error nil\n"
		if form == "history" {
			want = ""
		}
		b := made()
		for range 2 {
			b.says(t, strings.Join(filled(form), " "), want)
		}
	}
	for _, line := range []string{"connect -1", "conn -1", "streams 0 7", "streams -1 -1", "where 0", "rounds -1", "read 1 -1", "far -1 open", "far 9 read 0 -1", "far 0 send -1"} {
		made().says(t, line, "error nil\n")
	}
	b := made()
	b.says(t, "new 65 1 4 8 3 2 1 1 64 0", "error range\n") // one that fails brings no pool
	b.says(t, "open", "error nil\n")
}

// new: each of its numbers goes where the chapter says.
func TestP25_1_New(t *testing.T) {
	for _, c := range []struct{ numbers, want string }{
		{"1 1 1 1 1 2 1 1 1 0", "ok"},
		{"64 1024 2147483647 1048576 65536 4096 1024 1024 1048576 2147483647", "ok"},
		{"0 1 1 1 1 2 1 1 1 0", "error range"}, {"65 1 1 1 1 2 1 1 1 0", "error range"}, {"-1 1 1 1 1 2 1 1 1 0", "error range"},
		{"1 0 1 1 1 2 1 1 1 0", "error range"}, {"1 2 1 1 1 4 1 1 1 0", "error range"}, {"1 2 1 1 1 3 2 1 1 0", "error range"}, {"1 2 1 1 1 4 2 1 1 0", "ok"},
		{"1 1 0 1 1 2 1 1 1 0", "error config"}, {"1 1 2147483648 1 1 2 1 1 1 0", "error config"},
		{"1 1 1 0 1 2 1 1 1 0", "error config"}, {"1 1 1 1048577 1 2 1 1 1 0", "error config"},
		{"1 1 1 1 0 2 1 1 1 0", "error config"}, {"1 1 1 1 65537 2 1 1 1 0", "error config"},
		{"1 1 1 1 1 0 1 1 1 0", "error config"}, {"1 1 1 1 1 4097 1 1 1 0", "error config"}, {"1 1 1 1 1 1 1 1 1 0", "error range"},
		{"1 1 1 1 1 2 0 1 1 0", "error config"}, {"1 1 1 1 1 2 1025 1 1 0", "error config"},
		{"1 1 1 1 1 2 1 0 1 0", "error config"}, {"1 1 1 1 1 2 1 1025 1 0", "error config"},
		{"1 1 1 1 1 2 1 1 0 0", "error config"}, {"1 1 1 1 1 2 1 1 1048577 0", "error config"},
		{"1 1 1 1 1 2 1 1 1 -1", "error config"}, {"1 1 1 1 1 2 1 1 1 2147483648", "error config"},
		{"0 0 0 1 1 2 1 1 1 0", "error range"}, {"1 0 0 1 1 2 1 1 1 0", "error config"},
	} {
		made().talk(t, "new "+c.numbers, c.want)
	}
	b := begun(t, "new 2 1 3 5 2 4 1 1 13 6\nconnect 0\nconnect 1\nopen\nopen\n")
	b.talk(t,
		"open", "error limit", "conn 2", "error range",
		"where 1", "at 0 1 13", "where 2", "at 1 1 13", // Skip 6
		"write 1 abcdefgh", "took 5", // Stage 5
		"far 0 ping", "token 1", "far 0 ping", "error limit", // Pings 1
		"rounds 4", "ok", "far 0 accept", "id 13",
		"far 0 read 13 9", "gave abc", // Window 3
		"far 0 send 99", "moved 0", "far 0 step", "step 1", "far 0 step", "step 1", "far 0 step", "step 0", "far 0 send 99", "moved 24", // Out 13: the second frame is laid out, since 12 bytes wait
		"rounds 9", "ok", "far 0 read 13 1", "gave d",
	)
}

// The pool is that of the last new that didn't fail; with it the history begins anew.
func TestP25_1_AnotherPool(t *testing.T) {
	b := begun(t, one+"open\nwrite 1 abc\nclose 1\n")
	for _, numbers := range []string{"0 1 4 8 3 2 1 1 64 0", "1 1 0 8 3 2 1 1 64 0", "1 9 4 8 3 2 1 1 64 0"} {
		b.line(t, "new "+numbers)
		b.talk(t, "history", "1 written 3 read 0 closed", "where 1", "at 0 1 1", "conn 0", "life 1 live open 1 left 2147483647")
	}
	b.talk(t,
		"new 1 1 4 8 3 2 1 1 64 0", "ok",
		"history", "", "where 1", "error handle", "conn 0", "life 0 open 0 left 0", "far 0 accept", "error noconn",
		"connect 0", "ok", "open", "handle 1", "rounds 1", "ok", "far 0 accept", "id 1",
		"far 0 write 1 x", "took 1", "history", "-1 written 1 read 0",
		"new 1 1 4 8 3 2 1 1 64 0", "ok", "connect 0", "ok",
	)
	// Stream 1 of the new pool's connection is none that its open has answered.
	b.says(t, injected(0, specimens.Data(api.FlagSYN, 1, "ab")), "ok\n")
	b.talk(t, "far 0 accept", "id 1", "far 0 read 1 1", "gave a", "far 0 write 1 x", "took 1", "far 0 close 1", "ok", "history", "")
}

// What each command of the near end answers, and what it fails with.
func TestP25_1_TheNearEndsCommands(t *testing.T) {
	b := made()
	b.talk(t,
		"new 2 2 4 8 3 4 2 1 64 0", "ok",
		"connect 2", "error range", "connect -1", "error range", "cut 2", "error range", "cut 0", "error noconn",
		"open", "error noconn", "conn 0", "life 0 open 0 left 0", "conn -1", "error range", "conn 2", "error range",
		"streams 0 0", "error noconn", "streams 0 2", "error noconn", "streams 2 0", "error noconn", "streams -1 9", "error noconn",
		"connect 0", "ok", "connect 0", "error live", "conn 0", "life 1 live open 0 left 2147483648",
		"streams 0 0", "streams", "streams 0 1", "streams", "streams 0 2", "error range", "streams 0 -1", "error range", "streams 1 0", "error noconn",
		"open", "handle 1", "open", "handle 2", "open", "error limit",
		"streams 0 0", "streams 1 3", "streams 0 1", "streams",
		"where 2", "at 0 1 3", "where 0", "error handle", "where 3", "error handle", "where -1", "error handle",
		"write 2 %", "took 0", "write 2 abc", "took 3", "write 2 defghijkl", "took 5", "write 2 m", "took 0", "write 3 a", "error handle", "write 0 a", "error handle",
		"read 2 9", "gave %", "read 2 0", "gave %", "read 2 -1", "error range", "read 3 -1", "error handle",
		"close 3", "error handle", "close 1", "ok", "close 1", "error closed", "write 1 a", "error closed", "write 1 %", "error closed",
		"rounds 0", "ok", "rounds -1", "error range", "rounds 1048577", "error range", "rounds 1048576", "ok",
		"reset 3", "error handle", "reset 2", "ok", "reset 2", "error handle", "where 2", "error handle",
		"conn 0", "life 1 live open 1 left 2147483646",
		"far 0 away", "ok", "rounds 9", "ok", "conn 0", "life 1 live draining open 1 left 2147483646", "open", "error draining",
		"cut 0", "ok", "cut 0", "error noconn", "conn 0", "life 1 draining open 1 left 2147483646", "write 1 a", "error cut", "read 1 1", "error cut", "close 1", "error cut", "reset 1", "error cut",
		"connect 0", "ok", "read 1 1", "error handle", "open", "handle 3", "where 3", "at 0 2 1", "conn 0", "life 2 live open 1 left 2147483647",
	)
}

// What each command of the far end answers, and what it fails with.
func TestP25_1_TheFarEndsCommands(t *testing.T) {
	b := made()
	b.talk(t, "new 2 1 4 8 3 2 1 1 64 0", "ok", "connect 0", "ok")
	for _, form := range forms {
		if words := filled(form); words[0] == "far" {
			for place, want := range map[string]string{"-1": "error range\n", "2": "error range\n", "1": "error noconn\n"} {
				words[1] = place
				b.says(t, strings.Join(words, " "), want)
			}
		}
	}
	b.talk(t,
		"open", "handle 1", "far 0 accept", "error empty", "rounds 1", "ok", "far 0 accept", "id 1", "far 0 accept", "error empty",
		"far 0 open", "id 2", "far 0 open", "error limit",
		"far 0 write 1 abc", "took 3", "far 0 write 1 defghij", "took 5", "far 0 write 1 k", "took 0", "far 0 write 3 a", "error nostream", "far 0 write 0 a", "error nostream", "far 0 write 4294967295 a", "error nostream",
		"far 0 read 1 9", "gave %", "far 0 read 1 -1", "error range", "far 0 read 3 -1", "error nostream", "far 0 read 0 1", "error nostream",
		"far 0 ping", "token 1", "far 0 ping", "error limit", "far 0 pongs", "pongs", "rounds 9", "ok", "far 0 pongs", "pongs 1", "far 0 pongs", "pongs",
		"far 0 step", "step 0", "far 0 close 2", "ok", "far 0 close 2", "error closed", "far 0 close 4", "error nostream", "far 0 step", "step 1", "far 0 step", "step 0",
		"far 0 send 0", "moved 0", "far 0 send -1", "moved 0", "far 0 send 5", "moved 5", "far 0 send 99", "moved 7", "far 0 send 99", "moved 0",
		"far 0 pass 0", "moved 0", "far 0 pass -9", "moved 0", "far 0 pass 1", "moved 1", "far 0 pass 99", "moved 11", "far 0 pass 99", "moved 0",
		"far 0 inject %", "ok", "read 1 99", "gave abcd",
		"far 0 reset 1", "ok", "far 0 reset 1", "error nostream", "far 0 read 1 1", "error nostream", "rounds 2", "ok", "read 1 1", "error reset", "read 1 1", "error handle",
		"far 0 away", "ok", "far 0 away", "ok", "rounds 1", "ok", "conn 0", "life 1 live draining open 0 left 2147483647",
		"cut 0", "ok", "far 0 send 1", "error cut", "far 0 pass 1", "error cut", "far 0 open", "error cut", "far 0 away", "error cut", "far 0 step", "step 0", "far 0 pongs", "pongs", "far 0 inject a", "error cut",
	)
	b = begun(t, "new 1 1 4 8 3 2 1 3 999 0\nconnect 0\nfar 0 ping\nfar 0 ping\nfar 0 ping\nrounds 9\n")
	b.talk(t, "far 0 pongs", "pongs 1 2 3", "far 0 ping", "token 4")
}

// conn tells live and draining, or one of them, or none.
func TestP25_1_ConnTellsHowItIs(t *testing.T) {
	begun(t, one).talk(t, "conn 0", "life 1 live open 0 left 2147483648", "cut 0", "ok", "conn 0", "life 1 open 0 left 2147483648")
	begun(t, one+"far 0 away\nrounds 1\n").talk(t, "conn 0", "life 1 live draining open 0 left 2147483648", "connect 0", "ok", "conn 0", "life 2 live open 0 left 2147483648")
	begun(t, one+"open\nfar 0 away\nrounds 1\ncut 0\n").talk(t, "conn 0", "life 1 draining open 1 left 2147483647", "connect 0", "ok", "conn 0", "life 2 live open 0 left 2147483648")
}

// Each error that a command can go wrong with has its word; a violation has two.
func TestP25_1_TheWordsOfErrors(t *testing.T) {
	syn, data, fin := api.FlagSYN, specimens.Data, api.FlagFIN
	bare := specimens.Bare
	version := bare(api.TypePing, syn, 0, 1)
	version.Head.Version = 1
	for _, c := range []struct {
		want   string
		frames []api.Frame
	}{
		{"protocol version", []api.Frame{version}},
		{"protocol type", []api.Frame{bare(4, 0, 1, 0)}},
		{"protocol flags", []api.Frame{data(16, 1, "")}},
		{"protocol id", []api.Frame{data(0, 0, "")}},
		{"protocol length", []api.Frame{data(syn, 1, "abcd")}},
		{"protocol window", []api.Frame{data(syn, 1, "abc"), data(0, 1, "de")}},
		{"protocol credit", []api.Frame{bare(api.TypeWindow, syn, 1, 1)}},
		{"protocol parity", []api.Frame{data(syn, 2, "")}},
		{"protocol reused", []api.Frame{data(syn, 3, ""), data(syn, 3, "")}},
		{"protocol unknown", []api.Frame{data(0, 1, "a")}},
		{"protocol flood", []api.Frame{data(syn, 1, ""), data(syn, 3, "")}},
		{"protocol ping", []api.Frame{bare(api.TypePing, api.FlagACK, 0, 1)}},
		{"peer", []api.Frame{bare(api.TypeAway, 0, 0, 1)}},
		{"peer", []api.Frame{bare(api.TypeAway, 0, 0, 2)}},
	} {
		b := begun(t, one)
		b.says(t, injected(0, c.frames...), "error "+c.want+"\n")
		for _, line := range []string{"far 0 open", "far 0 accept", "far 0 ping", "far 0 away", "far 0 write 1 a", "far 0 read 1 1", "far 0 read 1 -1", "far 0 close 1", "far 0 reset 1", "far 0 inject %"} {
			b.says(t, line, "error "+c.want+"\n")
		}
		b.talk(t, "conn 0", "life 1 live open 0 left 2147483648", "streams 0 1", "streams") // the near end hasn't heard of it yet
		b.line(t, "rounds 2")
		b.line(t, "conn 0")
	}
	b := begun(t, "new 1 1 4 8 3 2 1 1 64 2147483647\nconnect 0\nopen\nreset 1\n")
	b.talk(t, "open", "error exhausted", "far 0 open", "error exhausted")
	b = begun(t, one)
	b.says(t, injected(0, bare(api.TypeAway, 0, 0, 0)), "ok\n")
	b.talk(t, "far 0 open", "error away")
	b = begun(t, one+"open\nrounds 1\nfar 0 accept\n")
	b.says(t, injected(0, data(fin, 1, "")), "ok\n")
	b.says(t, injected(0, bare(api.TypeWindow, api.FlagRST, 1, 0)), "ok\n")
	b.talk(t, "far 0 read 1 1", "error reset", "far 0 read 1 1", "error nostream")
}

// Each sentinel of api has its word, also those that no command goes wrong with today; wrapped, and as a violation's Why.
func TestP25_1_EverySentinelHasItsWord(t *testing.T) {
	if wordFor(api.ErrNoStream) != "nostream" || wordFor(api.ErrEOF) != "eof" {
		t.Fatalf("the chapter's examples: %q, %q", wordFor(api.ErrNoStream), wordFor(api.ErrEOF))
	}
	for _, s := range sentinels.All() {
		word, breach := wordFor(s), &api.Violation{Stream: 1, Why: s}
		for _, c := range []struct {
			err  error
			want string
		}{
			{s, word},
			{fmt.Errorf("wrapped: %w", s), word},
			{breach, "protocol " + word},
			{fmt.Errorf("wrapped: %w", breach), "protocol " + word},
		} {
			if got := script.WordOf(c.err); got != c.want {
				t.Errorf("%v: %q, want %q", c.err, got, c.want)
			}
		}
	}
}
