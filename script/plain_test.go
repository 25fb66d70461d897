package script_test

import (
	"errors"
	"fmt"
	"go/ast"
	"go/parser"
	"go/token"
	"regexp"
	"slices"
	"strconv"
	"strings"
	"sync"
	"testing"

	"culvert/api"
	"culvert/pool"
	"culvert/script"
	"culvert/sentinels"
)

// forms: the chapter's commands as its table writes them. A word in capitals stands for a number (K, H, N), an id (ID) or a text (TEXT).
var forms = []string{
	"new N N N N N N N N N N",
	"connect K",
	"cut K",
	"open",
	"write H TEXT",
	"read H N",
	"close H",
	"reset H",
	"rounds N",
	"where H",
	"conn K",
	"streams K N",
	"history",
	"far K open",
	"far K accept",
	"far K write ID TEXT",
	"far K read ID N",
	"far K close ID",
	"far K reset ID",
	"far K ping",
	"far K pongs",
	"far K away",
	"far K step",
	"far K send N",
	"far K pass N",
	"far K inject TEXT",
}

// Which words the chapter takes for what.
var (
	isNumber = regexp.MustCompile(`\A(0|-?[1-9][0-9]*)\z`)
	isText   = regexp.MustCompile(`\A(%|([!-$&-~]|%([01][0-9a-f]|20|25|7f|[89a-f][0-9a-f]))+)\z`)
	escaped  = regexp.MustCompile(`%[0-9a-f]{2}`)
)

// names: the sentinels' names, as api's source has them, by their texts.
var names = sync.OnceValue(func() map[string]string {
	file, err := parser.ParseFile(token.NewFileSet(), "../api/api.go", nil, 0)
	if err != nil {
		panic(err)
	}
	found := map[string]string{}
	ast.Inspect(file, func(n ast.Node) bool {
		v, ok := n.(*ast.ValueSpec)
		if !ok || !strings.HasPrefix(v.Names[0].Name, "Err") {
			return true
		}
		text, err := strconv.Unquote(v.Values[0].(*ast.CallExpr).Args[0].(*ast.BasicLit).Value)
		if err != nil {
			panic(err)
		}
		found[text] = v.Names[0].Name
		return true
	})
	return found
})

// wordFor: the word of a sentinel, out of its name.
func wordFor(sentinel error) string {
	return strings.ToLower(strings.TrimPrefix(names()[sentinel.Error()], "Err"))
}

// wrong: the answer of a command that goes wrong with this.
func wrong(err error) string {
	var v *api.Violation
	if errors.As(err, &v) {
		return "error protocol " + wordFor(v.Why) + "\n"
	}
	for _, s := range sentinels.All() {
		if errors.Is(err, s) {
			return "error " + wordFor(s) + "\n"
		}
	}
	return "an error without a sentinel"
}

// listOf: the byte list that a text writes, and whether it is one.
func listOf(text string) (string, bool) {
	if !isText.MatchString(text) {
		return "", false
	}
	if text == "%" {
		return "", true
	}
	return escaped.ReplaceAllStringFunc(text, func(one string) string {
		n, _ := strconv.ParseInt(one[1:], 16, 32)
		return string([]byte{byte(n)})
	}), true
}

// textOf: the text of a byte list.
func textOf(list string) string {
	if list == "" {
		return "%"
	}
	var text strings.Builder
	for _, c := range []byte(list) {
		if c >= 0x21 && c <= 0x7e && c != 0x25 {
			text.WriteByte(c)
		} else {
			fmt.Fprintf(&text, "%%%02x", c)
		}
	}
	return text.String()
}

// wordsOf: the longest runs of bytes that are no blanks.
func wordsOf(line string) []string {
	var words []string
	begin := 0
	for i := range len(line) + 1 {
		if i < len(line) && line[i] != 0x20 && line[i] != 0x09 && line[i] != 0x0d {
			continue
		}
		if begin < i {
			words = append(words, line[begin:i])
		}
		begin = i + 1
	}
	return words
}

// formOf: which form's command the words name.
func formOf(words []string) (form []string, err error) {
	few := false
	for _, f := range forms {
		form = strings.Fields(f)
		switch {
		case form[0] != words[0]:
		case form[0] != "far":
			return form, nil
		case len(words) < 3:
			few = true
		case form[2] == words[2]:
			return form, nil
		}
	}
	if few {
		return nil, api.ErrMany
	}
	return nil, api.ErrWord
}

// given is what stands behind a command, by the letters of its form.
type given struct {
	numbers []int
	id      uint32
	text    string
}

// givenBy: what the words say where the form has capitals.
func givenBy(form, words []string) (g given, err error) {
	if len(form) != len(words) {
		return g, api.ErrMany
	}
	for i, what := range form {
		n, tooGreat := strconv.ParseInt(words[i], 10, 64)
		number := isNumber.MatchString(words[i]) && tooGreat == nil
		text, isList := listOf(words[i])
		switch {
		case what == "TEXT" && isList:
			g.text = text
		case what == "ID" && number && n >= 0 && n < 1<<32:
			g.id = uint32(n)
		case (what == "K" || what == "H" || what == "N") && number:
			g.numbers = append(g.numbers, int(n))
		case strings.ToUpper(what) == what:
			return g, api.ErrArgument
		}
	}
	return g, nil
}

// tale is what has become of one direction: here with every byte.
type tale struct {
	written string
	read    int
	closed  bool
	ended   bool
}

// plain is a player as the chapter tells of one: what it calls, what it keeps of the streams that it opened, and what it answers.
type plain struct {
	none   bool // a nil player
	pool   *pool.Pool
	tales  map[int]tale
	opened map[int]api.Place // by handle, all that ever were
}

// play: what a line answers.
func (p *plain) play(line string) string {
	if len(line) > 65536 {
		return wrong(api.ErrLimit)
	}
	words := wordsOf(line)
	if len(words) == 0 || words[0][0] == '#' {
		return ""
	}
	form, err := formOf(words)
	if err != nil {
		return wrong(err)
	}
	g, err := givenBy(form, words)
	if err != nil {
		return wrong(err)
	}
	if words[0] == "far" {
		return p.far(words[2], append(g.numbers, 0), g.id, g.text)
	}
	return p.near(words[0], append(g.numbers, 0), g.text)
}

// run: what the lines of a text answer.
func (p *plain) run(text string) string {
	var answers strings.Builder
	for _, line := range strings.Split(text, "\n") {
		answers.WriteString(p.play(line))
	}
	return answers.String()
}

func (p *plain) start(n []int) error {
	if p.none {
		return api.ErrNil
	}
	made, err := pool.New(n[0], n[1], api.Config{Window: n[2], Stage: n[3], Frame: n[4], Streams: n[5], Backlog: n[6], Pings: n[7], Out: n[8], Skip: n[9]})
	if err == nil {
		*p = plain{pool: made, tales: map[int]tale{}, opened: map[int]api.Place{}}
	}
	return err
}

// near: what a command of the pool's answers; n has one number more than the command.
func (p *plain) near(command string, n []int, text string) string {
	switch command {
	case "new":
		return okIf(p.start(n))
	case "connect":
		return okIf(p.pool.Connect(n[0]))
	case "cut":
		return okIf(p.pool.Cut(n[0]))
	case "reset":
		return okIf(p.pool.Reset(n[0]))
	case "rounds":
		return okIf(p.pool.Rounds(n[0]))
	case "open":
		h, err := p.pool.Open()
		if err == nil {
			p.opened[h], _ = p.pool.Handle(h)
		}
		return unless(err, "handle %d\n", h)
	case "write":
		took, err := p.pool.Write(n[0], []byte(text))
		if err == nil {
			p.wrote(n[0], text[:took])
		}
		return unless(err, "took %d\n", took)
	case "close":
		err := p.pool.Close(n[0])
		if err == nil {
			p.closed(n[0])
		}
		return okIf(err)
	case "read":
		b, err := p.pool.Read(n[0], n[1])
		return p.told(-n[0], string(b), err)
	case "history":
		return p.text()
	}
	return p.look(command, n)
}

// unless: the answer, or the error's.
func unless(err error, answer string, values ...any) string {
	if err != nil {
		return wrong(err)
	}
	return fmt.Sprintf(answer, values...)
}

func okIf(err error) string { return unless(err, "ok\n") }

// look: the commands that change nothing.
func (p *plain) look(command string, n []int) string {
	if p.pool == nil {
		return wrong(api.ErrNil)
	}
	switch command {
	case "where":
		at, ok := p.pool.Handle(n[0])
		return unless(map[bool]error{false: api.ErrHandle}[ok], "at %d %d %d\n", at.Conn, at.Life, at.ID)
	case "conn":
		v, ok := p.pool.Conn(n[0])
		how := map[bool]string{true: " live"}[v.Live] + map[bool]string{true: " draining"}[v.Draining]
		return unless(map[bool]error{false: api.ErrRange}[ok], "life %d%s open %d left %d\n", v.Life, how, v.Open, v.Left)
	}
	switch {
	case p.pool.Link(n[0]) == nil:
		return wrong(api.ErrNoConn)
	case n[1] != 0 && n[1] != 1:
		return wrong(api.ErrRange)
	}
	return row("streams", p.pool.Link(n[0]).End(n[1]).Streams())
}

// row: a word and numbers behind it.
func row(word string, ids []uint32) string {
	for _, id := range ids {
		word += fmt.Sprintf(" %d", id)
	}
	return word + "\n"
}

// far: what a command of the far end's answers; n has one number more than the command.
func (p *plain) far(command string, n []int, id uint32, text string) string {
	kind := map[string]api.LinkKind{
		"open": api.DoOpen, "accept": api.DoAccept, "write": api.DoWrite, "read": api.DoRead, "close": api.DoClose,
		"reset": api.DoReset, "ping": api.DoPing, "pongs": api.DoPongs, "away": api.DoAway, "step": api.DoStep,
		"send": api.DoSend, "pass": api.DoPass, "inject": api.DoInject,
	}[command]
	r, err := p.pool.Far(n[0], api.LinkOp{Kind: kind, ID: id, N: n[1], Data: []byte(text)})
	h := p.handleOf(n[0], id)
	switch {
	case command == "read":
		return p.told(h, string(r.Data), err)
	case err != nil:
		return wrong(err)
	case command == "write":
		p.wrote(-h, text[:r.N])
		return fmt.Sprintf("took %d\n", r.N)
	case command == "close":
		p.closed(-h)
	case command == "open" || command == "accept":
		return fmt.Sprintf("id %d\n", r.ID)
	case command == "ping":
		return fmt.Sprintf("token %d\n", r.ID)
	case command == "pongs":
		return row("pongs", r.IDs)
	case command == "step":
		return fmt.Sprintf("step %d\n", r.N)
	case command == "send" || command == "pass":
		return fmt.Sprintf("moved %d\n", r.N)
	}
	return "ok\n"
}

// handleOf: the handle of a far end's stream, if open answered one; else 0.
func (p *plain) handleOf(k int, id uint32) int {
	view, _ := p.pool.Conn(k)
	for h, at := range p.opened {
		if at == (api.Place{Conn: k, Life: view.Life, ID: id}) {
			return h
		}
	}
	return 0
}

func (p *plain) wrote(key int, b string) {
	if one := p.tales[key]; key != 0 && !one.closed {
		one.written += b
		p.tales[key] = one
	}
}

func (p *plain) closed(key int) {
	if one := p.tales[key]; key != 0 {
		one.closed = true
		p.tales[key] = one
	}
}

// told: what a read answers, and what the history says to it.
func (p *plain) told(key int, b string, err error) string {
	one := p.tales[key]
	rest := one.written[one.read:]
	answer, fits := "gave "+textOf(b)+"\n", true
	switch {
	case err == nil:
		fits = strings.HasPrefix(rest, b)
		one.read += len(b)
	case errors.Is(err, api.ErrEOF):
		answer = wrong(err)
		fits = rest == "" && one.closed
		one.ended = true
	default:
		return wrong(err)
	}
	switch {
	case key == 0:
	case fits:
		p.tales[key] = one
	default:
		answer += "history\n"
	}
	return answer
}

func (p *plain) text() string {
	var keys []int
	for key := range p.tales {
		keys = append(keys, key)
	}
	slices.Sort(keys)
	text := ""
	for _, key := range keys {
		one := p.tales[key]
		how := map[bool]string{true: " closed"}[one.closed] + map[bool]string{true: " ended"}[one.ended]
		text += fmt.Sprintf("%d written %d read %d%s\n", key, len(one.written), one.read, how)
	}
	return text
}

// both is a player beside what the chapter says of it: each line must answer as that does.
type both struct {
	p *script.Player
	w *plain // the words
}

// made: a player without a pool.
func made() *both { return &both{script.New(), &plain{}} }

// begun: one that has played a text, whose lines must all go well.
func begun(t *testing.T, text string) *both {
	t.Helper()
	b := made()
	for line := range strings.Lines(text) {
		if got := b.line(t, strings.TrimSuffix(line, "\n")); strings.HasPrefix(got, "error") {
			t.Fatalf("%q: %q", line, got)
		}
	}
	return b
}

// line: what one line answers.
func (b *both) line(t *testing.T, line string) string {
	t.Helper()
	got, want := b.p.Line(line), b.w.play(line)
	if got != want {
		t.Fatalf("%.200q: %.500q, want %.500q", line, got, want)
	}
	return got
}

// says: a line that must answer this.
func (b *both) says(t *testing.T, line, want string) {
	t.Helper()
	if got := b.line(t, line); got != want {
		t.Fatalf("%.200q: %.500q, want %.500q", line, got, want)
	}
}

// talk: lines, each with what it must answer; a line's end is put behind each answer that isn't empty.
func (b *both) talk(t *testing.T, lines ...string) {
	t.Helper()
	for i := 0; i < len(lines); i += 2 {
		want := lines[i+1]
		if want != "" {
			want += "\n"
		}
		b.says(t, lines[i], want)
	}
}
