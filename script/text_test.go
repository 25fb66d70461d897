package script_test

import (
	"bytes"
	"fmt"
	"slices"
	"strings"
	"sync"
	"testing"

	"culvert/api"
	"culvert/draws"
	"culvert/script"
	"culvert/sentinels"
	"culvert/specimens"
)

// The lines of a text are what stands between its bytes 0x0a; the blanks about them do nothing.
func TestP25_2_Run(t *testing.T) {
	const ok = "new 1 1 4 8 3 2 1 1 64 0"
	long := strings.Repeat("x", api.MaxLine+1)
	for _, c := range []struct{ text, want string }{
		{"", ""}, {"\n", ""}, {"\n\n\n", ""}, {" \r\n\t\n", ""}, {"#open", ""},
		{"open", "error nil\n"}, {"open\n", "error nil\n"}, {"\nopen", "error nil\n"}, {"open\n\nopen", "error nil\nerror nil\n"},
		{"open\r\nopen\r\n", "error nil\nerror nil\n"}, {"#\nopen\n#open\nopen", "error nil\nerror nil\n"},
		{"open\ropen", "error many\n"}, {"open\vopen", "error word\n"}, {"open\u2028open", "error word\n"},
		{ok + "\nconnect 0\nopen", "ok\nok\nhandle 1\n"}, {ok + "\nopen\nconnect 0\nopen", "ok\nerror noconn\nok\nhandle 1\n"},
		{ok + "\nhistory\nconnect 0\nopen\nwrite 1 a\nhistory", "ok\nok\nhandle 1\ntook 1\n1 written 1 read 0\n"},
		{long + "\nopen", "error limit\nerror nil\n"}, {"open\n" + long, "error nil\nerror limit\n"}, {long[1:] + "\n" + long[1:], "error word\nerror word\n"},
		{strings.Repeat("open\n", 40000), strings.Repeat("error nil\n", 40000)}, // only a line has a bound, no text
	} {
		for what, got := range map[string]string{"a new player's": script.New().Run(c.text), "the package's": script.Run(c.text), "the words'": (&plain{}).run(c.text)} {
			if got != c.want {
				t.Errorf("%s Run(%.100q): %.200q, want %.200q", what, c.text, got, c.want)
			}
		}
	}
}

// A player goes on where it was; the package's Run begins anew each time.
func TestP25_2_RunGoesOn(t *testing.T) {
	p := script.New()
	for i, want := range []string{"ok\nok\nhandle 1\n", "took 2\n", "1 written 2 read 0\n"} {
		if got := p.Run([]string{one + "open", "write 1 ab", "history"}[i]); got != want {
			t.Errorf("%q, want %q", got, want)
		}
		if got := script.Run("open"); got != "error nil\n" {
			t.Errorf("Run: %q", got)
		}
	}
	if got := p.Line("history\nhistory"); got != "error word\n" { // one line, one word
		t.Errorf("Line: %q", got)
	}
}

func TestP25_3_Examples(t *testing.T) {
	if got := script.Told([]byte{0x25, 0x41, 0x20}); got != "%25A%20" {
		t.Errorf("Told: %q", got)
	}
	reads(t, "%", "")
	for _, text := range []string{"", "%4", "%41", "%FF", "a b", "%%"} {
		refuses(t, text)
	}
}

// reads: the text writes this list, and no other text does.
func reads(t *testing.T, text, list string) {
	t.Helper()
	b, err := script.Read(text)
	if string(b) != list || err != nil {
		t.Fatalf("Read(%q): %q, %v, want %q", text, b, err, list)
	}
	if got := script.Told([]byte(list)); got != text {
		t.Fatalf("Told(%q): %q, want %q", list, got, text)
	}
}

func refuses(t *testing.T, text string) {
	t.Helper()
	if b, err := script.Read(text); len(b) != 0 || !sentinels.Just(err, api.ErrArgument) {
		t.Fatalf("Read(%q): %q, %v, want ErrArgument", text, b, err)
	}
}

// Every byte list of at most two bytes, and every text of at most two bytes, and of three with % ahead.
func TestP25_3_EveryShortListAndText(t *testing.T) {
	lists := map[string]string{"%": ""} // by text
	for c := range 256 {
		first := string([]byte{byte(c)})
		lists[textOf(first)] = first
		for d := range 256 {
			both := string([]byte{byte(c), byte(d)})
			lists[textOf(both)] = both
		}
	}
	if len(lists) != 1+256+256*256 {
		t.Fatalf("%d texts", len(lists))
	}
	for text, list := range lists {
		reads(t, text, list)
	}
	check := func(text string) {
		if list, ok := lists[text]; ok {
			reads(t, text, list)
		} else {
			refuses(t, text)
		}
	}
	check("")
	for c := range 256 {
		check(string([]byte{byte(c)}))
		for d := range 256 {
			check(string([]byte{byte(c), byte(d)}))
			check(string([]byte{'%', byte(c), byte(d)}))
			check(string([]byte{byte(c), byte(d), '%'}))
		}
	}
}

// Texts with one thing wrong, and long ones.
func TestP25_3_Read(t *testing.T) {
	for _, text := range []string{
		"%%", "%%%", "%%25", "%25%", "%25%2", "a%", "a%2", "a%%", "%2a", "%5A", "%0A", "%0aG", "%g0", "%0g", "% 0", "%+1", "%-1", "%0x10"[:3], "%1_", "%\n0", "%é",
		"a b", " a", "a ", "\ta", "a\r", "a\n", "\x00", "\x1f", "\x7f", "\x80", "\xff", "é", "a\u00a0b", "%21", "%7e", "%61%62",
	} {
		if want, ok := listOf(text); ok { // the few that are right
			reads(t, text, want)
			continue
		}
		refuses(t, text)
	}
	for n := range 300 {
		list := make([]byte, n)
		for i := range list {
			list[i] = byte(7 * i)
		}
		reads(t, textOf(string(list)), string(list))
	}
	long := strings.Repeat("ab%25%00", 1<<17)
	reads(t, long, strings.Repeat("ab%\x00", 1<<17))
	refuses(t, long+"%")
	refuses(t, long+" ")
	refuses(t, "%0A"+long)
}

// What is handed in is neither changed nor kept; what is answered is new memory, and a nil list is an empty one.
func TestR6_ToldAndReadShareNoMemory(t *testing.T) {
	room := []byte("ab%\x00cd")
	text := script.Told(room[:4])
	if string(room) != "ab%\x00cd" || text != "ab%25%00" {
		t.Errorf("%q, %q", room, text)
	}
	specimens.Spoil(room)
	if text != "ab%25%00" {
		t.Errorf("the text is now %q", text)
	}
	first, _ := script.Read(text)
	second, _ := script.Read(text)
	specimens.Spoil(first)
	if string(second) != "ab%\x00" {
		t.Errorf("the second list is now %q", second)
	}
	if script.Told(nil) != "%" || script.Told([]byte{}) != "%" {
		t.Error("R5: a nil list has another text than an empty one")
	}
}

// A nil player has no pool, and takes none.
func TestP25_4_ANilPlayer(t *testing.T) {
	var none *script.Player
	w := &plain{none: true}
	nil10 := []string{"new 1 1 4 8 3 2 1 1 64 0", "new 0 0 0 0 0 0 0 0 0 0", "new -1 1 1 1 1 1 1 1 1 1", "new 9223372036854775807 1 1 1 1 1 1 1 1 -9223372036854775808", " new\t1 1 4 8 3 2 1 1 64 0\r"}
	lines := slices.Concat(nil10, []string{
		"", "#", "# new 1 1 4 8 3 2 1 1 64 0", "new", "new 1", "new 1 1 4 8 3 2 1 1 64", "new 1 1 4 8 3 2 1 1 64 0 0", "new x 1 4 8 3 2 1 1 64 0", "new 1 1 4 8 3 2 1 1 64 00",
		"jump", "far", "far 0 jump", "far 0 read 1", "far 0 read -1 1", "write 1 %zz", "history", strings.Repeat(" ", api.MaxLine), strings.Repeat(" ", api.MaxLine+1), "\n", "open\n",
	})
	for _, form := range forms {
		lines = append(lines, strings.Join(filled(form), " "))
	}
	for range 2 {
		for i, line := range lines {
			got, want := none.Line(line), w.play(line)
			if got != want {
				t.Errorf("%.100q: %q, want %q", line, got, want)
			}
			if i < len(nil10) && got != "error nil\n" {
				t.Errorf("%q: %q", line, got)
			}
			if fresh := script.New().Line(line); got != "error nil\n" && fresh != got {
				t.Errorf("%.100q: %q, a new player's is %q", line, got, fresh)
			}
		}
	}
	all := one + "open\n#\nwrite 1 a\nhistory\nnew 1\njump"
	if got := none.Run(all); got != "error nil\nerror nil\nerror nil\nerror nil\nerror many\nerror word\n" {
		t.Errorf("Run: %q", got)
	}
	if none.Run("") != "" {
		t.Error("Run of no text")
	}
}

// Read and Told are each other's inverse, on lists and on texts.
func TestP25_5_ReadAndToldAreInverse(t *testing.T) {
	d := draws.Draws(25)
	taken := 0
	for range 20000 {
		list := make([]byte, d.Below(12))
		for i := range list {
			list[i] = byte(d.Below(256))
		}
		back, err := script.Read(script.Told(list))
		if !bytes.Equal(back, list) || err != nil {
			t.Fatalf("Read(Told(%q)): %q, %v", list, back, err)
		}
		text := ""
		for range d.Below(5) {
			text += []string{"%", "a", "%0", "%25", "%00", "0", "f", "%ff", "F", "%61", " ", "%7f", "~"}[d.Below(13)]
		}
		b, err := script.Read(text)
		if want, ok := listOf(text); ok != (err == nil) || string(b) != want {
			t.Fatalf("Read(%q): %q, %v, want %q, %v", text, b, err, want, ok)
		}
		if err == nil && script.Told(b) != text {
			t.Fatalf("Told(Read(%q)): %q", text, script.Told(b))
		}
		if err == nil {
			taken++
		}
	}
	if taken < 2000 || taken > 18000 {
		t.Errorf("of the drawn texts %d were taken", taken)
	}
}

// tale25 is a text that does something of everything.
const tale25 = two + `open
open
write 1 hello%20there
write 2 %00
close 2
rounds 3
far 0 accept
far 1 accept
far 0 read 1 2
far 0 write 1 back
far 1 close 1
rounds 4
# a remark

read 1 9
read 2 9
read 2 9
far 1 read 1 9
far 1 read 1 9
far 0 ping
rounds 2
far 0 pongs
jump
cut 1
connect 1
open
where 3
history
far 0 inject %01%00%00%00%00%00%00%00%00%00%00%00
rounds 2
conn 0
conn 1
streams 1 0
history`

// What a text answers is what its lines answer, in how many pieces ever they are played.
func TestP25_5_ATextAnswersWhatItsLinesAnswer(t *testing.T) {
	whole := script.Run(tale25)
	if want := (&plain{}).run(tale25); whole != want {
		t.Fatalf("got:\n%s\nwant:\n%s", whole, want)
	}
	lines := strings.Split(tale25, "\n")
	line := script.New()
	answers := ""
	for _, l := range lines {
		answers += line.Line(l)
	}
	if answers != whole {
		t.Errorf("by lines:\n%s", answers)
	}
	for cut := range len(lines) + 1 {
		p := script.New()
		if got := p.Run(strings.Join(lines[:cut], "\n")) + p.Run(strings.Join(lines[cut:], "\n")); got != whole {
			t.Errorf("in two pieces, behind line %d:\n%s", cut, got)
		}
	}
}

// Two players, line by line beside one another, and many at the same time.
func TestP25_5_PlayersDoNotTouchEachOther(t *testing.T) {
	whole := script.Run(tale25)
	lines := strings.Split(tale25, "\n")
	for ahead := range 12 {
		a, b := script.New(), script.New()
		var first, second string
		for i := range len(lines) + ahead {
			if i < len(lines) {
				first += a.Line(lines[i])
			}
			if i >= ahead {
				second += b.Line(lines[i-ahead])
			}
		}
		if first != whole || second != whole {
			t.Errorf("%d lines ahead:\n%s\n%s", ahead, first, second)
		}
	}
	var all sync.WaitGroup
	answers := make([]string, 16)
	for i := range answers {
		all.Go(func() { answers[i] = script.Run(tale25) })
	}
	all.Wait()
	for _, got := range answers {
		if got != whole {
			t.Errorf("at the same time:\n%s", got)
		}
	}
}

// A line that goes wrong ahead of its call, or that only looks, changes nothing of what the others answer.
func TestR4_ALineThatGoesWrongChangesNothing(t *testing.T) {
	whole := script.Run(tale25)
	for _, idle := range []string{
		"", "#", "jump", "far", "far 0", "far 0 jump", "open 1", "write 1", "write 1 %zz", "write 99 a", "read 1 -1", "read 99 1", "close 99", "reset 99", "rounds -1", "rounds 0", "rounds 1048577",
		"far 0 write 99 a", "far 0 read 99 1", "far 0 close 4294967296", "far 9 open", "far 0 send 0", "far 0 pass -1", "connect 7", "cut 7", "new 0 0 0 0 0 0 0 0 0 0", "new 2 2 4 8 3 4 2 1 64",
		"where 1", "conn 0", "conn 9", "streams 0 0", "streams 0 1", "streams 9 0", "history", strings.Repeat("x", api.MaxLine+1),
	} {
		p := script.New()
		answers := ""
		for line := range strings.SplitSeq(tale25, "\n") {
			first := p.Line(idle)
			if again := p.Line(idle); again != first {
				t.Errorf("%.60q: %q, and then %q", idle, first, again)
			}
			answers += p.Line(line)
		}
		if answers != whole {
			t.Errorf("%.60q in between:\n%s", idle, answers)
		}
	}
}

// What a text answers hangs on the text alone.
func TestR9_TheSameTextAnswersTheSame(t *testing.T) {
	whole := script.Run(tale25)
	for i := range 50 {
		script.Run(fmt.Sprintf("new 3 1 4 8 3 2 1 1 64 %d\nconnect 0\nopen\n", i))
		if got := script.Run(tale25); got != whole {
			t.Fatalf("the %dth time:\n%s", i, got)
		}
	}
}
