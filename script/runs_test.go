package script_test

import (
	"fmt"
	"slices"
	"strconv"
	"strings"
	"testing"

	"culvert/draws"
	"culvert/script"
	"culvert/specimens"
)

// stream is one that open has answered, with where it stands.
type stream struct{ h, k, id int }

// talker draws lines that fit what was answered so far, as a rule.
type talker struct {
	row     draws.Draws
	places  int
	hostile bool
	streams []stream
}

// seldom: one time in so many.
func (d *talker) seldom(n int) bool { return d.row.Below(n) == 0 }

// anyOf: one of the last streams; sometimes one that is none.
func (d *talker) anyOf() stream {
	if len(d.streams) == 0 || d.seldom(40) {
		return stream{d.row.Below(9) - 1, d.row.Below(d.places+2) - 1, d.row.Below(9)}
	}
	last := min(len(d.streams), 5)
	return d.streams[len(d.streams)-1-d.row.Below(last)]
}

func (d *talker) text() string {
	b := make([]byte, d.row.Below(8))
	for i := range b {
		b[i] = byte(d.row.Below(256))
	}
	return textOf(string(b))
}

// inject: the bytes of a frame, as a rule of Data for a stream that is there.
func (d *talker) inject(s stream) string {
	b := specimens.Bytes(specimens.Data(uint16(4*d.row.Below(2)), uint32(s.id), "xyz"[:d.row.Below(3)]))
	if d.seldom(4) {
		b = specimens.Bytes(specimens.Drawn(&d.row, 3))
	}
	if d.seldom(9) {
		b = b[:d.row.Below(len(b)+1)]
	}
	return textOf(string(b))
}

// line: the next one.
func (d *talker) line() string {
	s, n := d.anyOf(), d.row.Below(7)
	switch which := d.row.Below(200); {
	case which < 40:
		return fmt.Sprintf("rounds %d", n/2)
	case which < 62:
		return fmt.Sprintf("write %d %s", s.h, d.text())
	case which < 84:
		return fmt.Sprintf("read %d %d", s.h, n)
	case which < 104:
		return fmt.Sprintf("far %d write %d %s", s.k, s.id, d.text())
	case which < 128:
		return fmt.Sprintf("far %d read %d %d", s.k, s.id, n)
	case which < 140:
		return fmt.Sprintf("far %d accept", s.k)
	case which < 150:
		return "open"
	case which < 154:
		return fmt.Sprintf("close %d", s.h)
	case which < 158:
		return fmt.Sprintf("far %d close %d", s.k, s.id)
	case which < 159:
		return fmt.Sprintf("reset %d", s.h)
	case which < 160:
		return fmt.Sprintf("far %d reset %d", s.k, s.id)
	case which < 176:
		return d.move(s, n)
	case which < 182:
		return []string{"history", "# a remark", "", "jump", "open 1", "far 0", "read 1 x", "write 1 %zz", fmt.Sprintf("read %d -1", s.h), "rounds -1"}[d.row.Below(10)]
	case which < 192:
		return d.look(s)
	case which < 195 && d.hostile:
		return fmt.Sprintf("far %d inject %s", s.k, d.inject(s))
	}
	return d.rare()
}

// move: what concerns no stream of the far end's.
func (d *talker) move(s stream, n int) string {
	switch d.row.Below(8) {
	case 0:
		return fmt.Sprintf("far %d ping", s.k)
	case 1:
		return fmt.Sprintf("far %d pongs", s.k)
	case 2:
		return fmt.Sprintf("far %d send %d", s.k, 4*n)
	case 3:
		return fmt.Sprintf("far %d pass %d", s.k, 4*n)
	case 4:
		return fmt.Sprintf("far %d open", s.k)
	}
	return fmt.Sprintf("far %d step", s.k)
}

func (d *talker) look(s stream) string {
	switch d.row.Below(3) {
	case 0:
		return fmt.Sprintf("where %d", s.h)
	case 1:
		return fmt.Sprintf("conn %d", s.k)
	}
	return fmt.Sprintf("streams %d %d", s.k, d.row.Below(3))
}

// rare: what changes much.
func (d *talker) rare() string {
	k := d.row.Below(d.places)
	switch {
	case d.seldom(6):
		return fmt.Sprintf("cut %d", k)
	case d.seldom(8):
		return fmt.Sprintf("far %d away", k)
	}
	return fmt.Sprintf("connect %d", k)
}

// heard: what a line has answered; the talker asks where a new stream stands, and forgets those that have gone, though not at once: the far end may still have them.
func (d *talker) heard(line, answer string, ask func(line string) string) {
	if answer == "error handle\n" && d.seldom(3) {
		d.streams = slices.DeleteFunc(d.streams, func(s stream) bool { return strings.Fields(line)[1] == strconv.Itoa(s.h) })
	}
	var s stream
	if _, err := fmt.Sscanf(answer, "handle %d", &s.h); err != nil {
		return
	}
	var life int
	fmt.Sscanf(ask(fmt.Sprintf("where %d", s.h)), "at %d %d %d", &s.k, &life, &s.id)
	d.streams = append(d.streams, s)
}

// newLine: the first line of a run, with a small configuration.
func (d *talker) newLine() string {
	window := 1 + d.row.Below(9)
	per := 1 + d.row.Below(3)
	skip := []int{0, 0, 5, 1<<31 - 3}[d.row.Below(4)]
	return fmt.Sprintf("new %d %d %d %d %d %d %d %d %d %d", d.places, per, window, 1+d.row.Below(9), 1+d.row.Below(5), 2*per+d.row.Below(2), per+d.row.Below(2), 1+d.row.Below(2), 1+d.row.Below(40), skip)
}

// kindOf: what sort of answer it is: its first word, with the error's words.
func kindOf(answer string) string {
	first, behind, _ := strings.Cut(answer, "\n")
	word, _, _ := strings.Cut(first, " ")
	switch {
	case word == "error":
		word = first
	case first == "gave %" || first == "took 0" || first == "moved 0" || first == "step 0":
		word = first
	case strings.HasPrefix(first, "streams ") || strings.HasPrefix(first, "pongs "):
		word += " .."
	}
	if behind == "history\n" {
		word += ", history"
	}
	return word
}

// drawn: runs of so many lines each, beside the plain player; how often each kind of answer came.
func drawn(t *testing.T, runs, lines int, hostile bool) map[string]int {
	t.Helper()
	kinds := map[string]int{}
	for run := range runs {
		d := talker{row: draws.Draws(run), places: 1 + run%3, hostile: hostile}
		b := made()
		ask := func(line string) string { return b.line(t, line) }
		ask(d.newLine())
		for k := range d.places {
			ask(fmt.Sprintf("connect %d", k))
		}
		for range lines {
			if d.seldom(300) {
				kinds[kindOf(ask(d.newLine()))]++
				d.streams = nil
			}
			line := d.line()
			answer := ask(line)
			kinds[kindOf(answer)]++
			d.heard(line, answer, ask)
		}
		ask("history")
	}
	return kinds
}

// Drawn runs answer as the chapter says, line for line; and each kind of answer comes in them.
func TestP25_1_DrawnRuns(t *testing.T) {
	kinds := drawn(t, 300, 400, false)
	for _, kind := range []string{
		"ok", "handle", "took", "took 0", "gave", "gave %", "id", "token", "pongs", "pongs ..", "step", "step 0", "moved", "moved 0", "at", "life", "streams", "streams ..",
		"error eof", "error closed", "error cut", "error reset", "error handle", "error nostream", "error range", "error noconn", "error limit", "error draining", "error exhausted",
		"error live", "error empty", "error word", "error many", "error argument",
	} {
		if kinds[kind] < 10 {
			t.Errorf("%q came %d times", kind, kinds[kind])
		}
	}
	for kind, n := range kinds { // P3, and P20.2: nobody heard what wasn't sent
		if strings.Contains(kind, "history") || strings.Contains(kind, "protocol") || strings.Contains(kind, "peer") {
			t.Errorf("%q came %d times", kind, n)
		}
	}
}

// The same with bytes that nobody sent.
func TestP25_1_DrawnHostileRuns(t *testing.T) {
	kinds := drawn(t, 300, 300, true)
	for _, kind := range []string{
		"gave, history", "error eof, history", "error peer", "error protocol unknown", "error protocol length", "error protocol window", "error protocol credit",
		"error protocol reused", "error protocol ping", "error protocol parity", "error protocol id", "error protocol flags",
	} {
		if kinds[kind] < 3 {
			t.Errorf("%q came %d times", kind, kinds[kind])
		}
	}
}

// witness hears the lines and the answers, and nothing else: what was taken and given of each direction, by the history's keys.
type witness struct {
	wrote, gave   map[int]string
	closed, ended map[int]bool
	at            map[string]int // handles by "place id", of the connection that stands there now
}

// hears: one line with its answer; the answer to where stands for an open.
func (w *witness) hears(t *testing.T, line, answer string) {
	t.Helper()
	words, told := strings.Fields(line), strings.Fields(answer)
	if len(words) < 2 || len(told) == 0 {
		return
	}
	h, _ := strconv.Atoi(words[1])
	switch {
	case words[0] == "connect" && answer == "ok\n":
		for place := range w.at {
			if strings.HasPrefix(place, words[1]+" ") {
				delete(w.at, place)
			}
		}
	case words[0] == "where" && told[0] == "at":
		w.at[told[1]+" "+told[3]] = h
	case words[0] == "far" && len(words) > 3:
		h = w.at[words[1]+" "+words[3]]
		if h != 0 {
			w.judges(t, -h, h, append(words[2:3], words[4:]...), told)
		}
	case words[0] != "far":
		w.judges(t, h, -h, append(words[:1], words[2:]...), told)
	}
}

// judges: a call about a stream, whose writes have this key and whose reads have that one (P3).
func (w *witness) judges(t *testing.T, writes, reads int, words, told []string) {
	t.Helper()
	switch command, first := words[0], told[0]; {
	case command == "write" && first == "took":
		list, _ := listOf(words[1])
		n, _ := strconv.Atoi(told[1])
		w.wrote[writes] += list[:n]
	case command == "close" && first == "ok":
		w.closed[writes] = true
	case command == "read" && first == "gave":
		list, _ := listOf(told[1])
		w.gave[reads] += list
		if !strings.HasPrefix(w.wrote[reads], w.gave[reads]) {
			t.Fatalf("%d: %q was given, of %q", reads, w.gave[reads], w.wrote[reads])
		}
	case command == "read" && told[len(told)-1] == "eof":
		w.ended[reads] = true
		if !w.closed[reads] || w.gave[reads] != w.wrote[reads] {
			t.Fatalf("%d has ended: %q was given, of %q; closed: %v", reads, w.gave[reads], w.wrote[reads], w.closed[reads])
		}
	}
}

// agrees: does the history tell what was heard?
func (w *witness) agrees(t *testing.T, history string) {
	t.Helper()
	for line := range strings.Lines(history) {
		var key int
		fmt.Sscanf(line, "%d", &key)
		want := fmt.Sprintf("%d written %d read %d", key, len(w.wrote[key]), len(w.gave[key]))
		if w.closed[key] {
			want += " closed"
		}
		if w.ended[key] {
			want += " ended"
		}
		if line != want+"\n" {
			t.Fatalf("the history tells %q, want %q", line, want)
		}
	}
	for key := range w.wrote {
		if !strings.Contains("\n"+history, fmt.Sprintf("\n%d written ", key)) {
			t.Fatalf("the history doesn't tell of %d:\n%s", key, history)
		}
	}
}

// P3, from text to text: what the answers of reads write is a beginning of what those of writes say was taken; an end is told behind all of it and behind a close.
func TestP3_FromTextToText(t *testing.T) {
	bytes, ends := 0, 0
	for run := range 400 {
		d := talker{row: draws.Draws(1000 + run), places: 1 + run%3}
		w := witness{map[int]string{}, map[int]string{}, map[int]bool{}, map[int]bool{}, map[string]int{}}
		p := script.New()
		ask := func(line string) string {
			answer := p.Line(line)
			if strings.HasSuffix(answer, "\nhistory\n") {
				t.Fatalf("%q: %q", line, answer)
			}
			w.hears(t, line, answer)
			return answer
		}
		ask(d.newLine())
		for k := range d.places {
			ask(fmt.Sprintf("connect %d", k))
		}
		for range 400 {
			line := d.line()
			d.heard(line, ask(line), ask)
		}
		w.agrees(t, ask("history"))
		for _, b := range w.gave {
			bytes += len(b)
		}
		ends += len(w.ended)
	}
	if bytes < 10000 || ends < 800 {
		t.Errorf("only %d bytes and %d ends", bytes, ends)
	}
}

// load is what conn tells of a place.
type load struct {
	live, draining bool
	open, left     int
}

func loadOf(answer string) (l load) {
	words := strings.Fields(answer)
	l.live, l.draining = slices.Contains(words, "live"), slices.Contains(words, "draining")
	l.open, _ = strconv.Atoi(words[len(words)-3])
	l.left, _ = strconv.Atoi(words[len(words)-1])
	return l
}

// P7, from text to text: an open succeeds just if some connection lives, isn't draining, has fewer than its number of streams and has ids left; it goes to the one with the fewest.
func TestP7_WhereAnOpenGoes(t *testing.T) {
	went, failed := 0, 0
	for run := range 150 {
		d := talker{row: draws.Draws(2000 + run), places: 3}
		p := script.New()
		first := d.newLine()
		p.Line(first)
		per, _ := strconv.Atoi(strings.Fields(first)[2])
		for range 300 {
			line := d.line()
			best, fewest := -1, 0
			for k := range d.places {
				l := loadOf(p.Line(fmt.Sprintf("conn %d", k)))
				if l.live && !l.draining && l.open < per && l.left > 0 && (best < 0 || l.open < fewest) {
					best, fewest = k, l.open
				}
			}
			answer := p.Line(line)
			d.heard(line, answer, p.Line)
			switch {
			case line != "open":
			case best < 0:
				failed++
				if !strings.HasPrefix(answer, "error ") {
					t.Fatalf("open: %q, and there is no place", answer)
				}
			default:
				went++
				if !strings.HasPrefix(answer, "handle ") || d.streams[len(d.streams)-1].k != best {
					t.Fatalf("open: %q, want one at %d", answer, best)
				}
			}
		}
	}
	if went < 500 || failed < 200 {
		t.Errorf("%d went, %d failed", went, failed)
	}
}

// played is a line with its answer, and the place that it went to (-1: all of them, -2: none).
type played struct {
	line, answer string
	k            int
}

// placeOf: where a line goes, by the streams that were opened so far.
func placeOf(line, answer string, streams []stream) int {
	words := strings.Fields(line)
	if len(words) == 0 {
		return -2
	}
	switch words[0] {
	case "rounds":
		return -1
	case "open":
		if strings.HasPrefix(answer, "handle") {
			return streams[len(streams)-1].k
		}
		return -1
	case "write", "read", "close", "reset", "where":
		if len(words) > 1 {
			for _, s := range streams {
				if words[1] == strconv.Itoa(s.h) {
					return s.k
				}
			}
		}
		return -2
	case "far", "conn", "connect", "cut", "streams":
		k, err := strconv.Atoi(words[1])
		if err == nil {
			return k
		}
	}
	return -2
}

// P7, from text to text: what happens on a connection hangs on the lines that went to it alone; so a cut fails the streams of its own alone. Only the handles have other numbers where the others' lines are left out.
func TestP7_AConnectionHearsOfNoOther(t *testing.T) {
	cuts := 0
	for run := range 100 {
		d := talker{row: draws.Draws(3000 + run), places: 2, hostile: run%2 == 1}
		p := script.New()
		first := d.newLine()
		p.Line(first)
		var all []played
		for range 300 {
			line := d.line()
			answer := p.Line(line)
			d.heard(line, answer, p.Line)
			all = append(all, played{line, answer, placeOf(line, answer, d.streams)})
		}
		for k := range d.places {
			cuts += alone(t, first, all, k)
		}
	}
	if cuts < 50 {
		t.Errorf("only %d cuts", cuts)
	}
}

// alone: the lines that went to one place, played by themselves; how many cuts went to the others.
func alone(t *testing.T, first string, all []played, k int) (cuts int) {
	t.Helper()
	p := script.New()
	p.Line(first)
	handles := map[string]string{} // by what they were
	for _, one := range all {
		if one.k != k && one.k != -1 {
			if strings.HasPrefix(one.line, "cut") && one.answer == "ok\n" {
				cuts++
			}
			continue
		}
		words := strings.Fields(one.line)
		if slices.Contains([]string{"write", "read", "close", "reset", "where"}, words[0]) {
			words[1] = handles[words[1]]
		}
		got := p.Line(strings.Join(words, " "))
		switch {
		case words[0] == "open" && one.k == k:
			handles[strings.Fields(one.answer)[1]] = strings.Fields(got)[1]
			if !strings.HasPrefix(got, "handle ") {
				t.Fatalf("open at %d alone: %q", k, got)
			}
		case words[0] == "open": // with another sentinel, perhaps
			if !strings.HasPrefix(got, "error ") {
				t.Fatalf("open, which failed: %q", got)
			}
		case got != one.answer:
			t.Fatalf("%q at %d alone: %q, and among the others %q", words, k, got, one.answer)
		}
	}
	return cuts
}
