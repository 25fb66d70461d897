package trace_test

import (
	"fmt"
	"math"
	"slices"
	"strings"
	"testing"

	"culvert/api"
	"culvert/sentinels"
	"culvert/trace"
)

// tale is what the chapter says that a history has of a known key: here with every byte, the read ones too.
type tale struct {
	key     int
	written string
	read    int
	closed  bool
	ended   bool
}

// plain is a history as the chapter tells of it: the known keys' tales, in the order in which they became known.
type plain struct {
	tales []tale
}

// find: the key's tale; where the key isn't known, one with nothing in it, and false.
func (p *plain) find(key int) (tale, bool) {
	for _, one := range p.tales {
		if one.key == key {
			return one, true
		}
	}
	return tale{key: key}, false
}

// keep: the tale in place of the key's last one, or as a new one.
func (p *plain) keep(one tale) {
	for i := range p.tales {
		if p.tales[i].key == one.key {
			p.tales[i] = one
			return
		}
	}
	p.tales = append(p.tales, one)
}

func (p *plain) wrote(key int, b string) error {
	one, _ := p.find(key)
	if one.closed {
		return api.ErrClosed
	}
	one.written += b
	p.keep(one)
	return nil
}

func (p *plain) closed(key int) error {
	one, _ := p.find(key)
	if one.closed {
		return api.ErrClosed
	}
	one.closed = true
	p.keep(one)
	return nil
}

func (p *plain) gave(key int, b string) error {
	one, _ := p.find(key)
	if len(b) > len(one.rest()) {
		return api.ErrHistory
	}
	for i := range len(b) {
		if b[i] != one.rest()[i] {
			return api.ErrHistory
		}
	}
	one.read += len(b)
	p.keep(one)
	return nil
}

func (p *plain) ended(key int) error {
	one, _ := p.find(key)
	if !one.closed || one.rest() != "" {
		return api.ErrHistory
	}
	one.ended = true
	p.keep(one)
	return nil
}

// rising: the tales by their keys.
func (p *plain) rising() []tale {
	all := slices.Clone(p.tales)
	slices.SortFunc(all, func(a, b tale) int {
		switch {
		case a.key < b.key:
			return -1
		case a.key > b.key:
			return 1
		}
		return 0
	})
	return all
}

func (p *plain) keys() []int {
	var all []int
	for _, one := range p.rising() {
		all = append(all, one.key)
	}
	return all
}

func (p *plain) text() string {
	var all strings.Builder
	for _, one := range p.rising() {
		fmt.Fprintf(&all, "%d written %d read %d", one.key, len(one.written), one.read)
		if one.closed {
			fmt.Fprint(&all, " closed")
		}
		if one.ended {
			fmt.Fprint(&all, " ended")
		}
		fmt.Fprintln(&all)
	}
	return all.String()
}

func (o tale) rest() string { return o.written[o.read:] }

func (o tale) past() api.Past {
	return api.Past{Written: len(o.written), Read: o.read, Closed: o.closed, Ended: o.ended}
}

// both is a History beside a plain one.
type both struct {
	x *trace.History
	p plain
}

// made: a new History beside a plain one.
func made(t *testing.T) *both {
	t.Helper()
	b := &both{x: trace.New()}
	if b.x == nil {
		t.Fatal("New: nil")
	}
	return b
}

func (b *both) wrote(t *testing.T, key int, bytes string) error {
	t.Helper()
	want := b.p.wrote(key, bytes)
	if err := b.x.Wrote(key, []byte(bytes)); !sentinels.Just(err, want) {
		t.Fatalf("Wrote(%d, %q), then %q: %v, want %v", key, bytes, b.p.text(), err, want)
	}
	return want
}

func (b *both) closed(t *testing.T, key int) error {
	t.Helper()
	want := b.p.closed(key)
	if err := b.x.Closed(key); !sentinels.Just(err, want) {
		t.Fatalf("Closed(%d), then %q: %v, want %v", key, b.p.text(), err, want)
	}
	return want
}

func (b *both) gave(t *testing.T, key int, bytes string) error {
	t.Helper()
	want := b.p.gave(key, bytes)
	if err := b.x.Gave(key, []byte(bytes)); !sentinels.Just(err, want) {
		t.Fatalf("Gave(%d, %q), then %q: %v, want %v", key, bytes, b.p.text(), err, want)
	}
	return want
}

func (b *both) ended(t *testing.T, key int) error {
	t.Helper()
	want := b.p.ended(key)
	if err := b.x.Ended(key); !sentinels.Just(err, want) {
		t.Fatalf("Ended(%d), then %q: %v, want %v", key, b.p.text(), err, want)
	}
	return want
}

// tells: every answer is the plain one's, for these keys, those that are known and those beside them.
func (b *both) tells(t *testing.T, asked ...int) {
	t.Helper()
	if got, want := b.x.Keys(), b.p.keys(); !slices.Equal(got, want) {
		t.Fatalf("Keys: %v, want %v", got, want)
	}
	if got, want := b.x.Text(), b.p.text(); got != want {
		t.Fatalf("Text: %q, want %q", got, want)
	}
	for _, key := range slices.Concat(asked, b.p.keys(), []int{0}) {
		for _, near := range []int{key, key + 1, key - 1, -key, ^key, key + 1<<32, key + 1<<31, key ^ math.MinInt} { // sums may wrap: those are keys too
			b.isOf(t, near)
		}
	}
}

// isOf: what is told of one key.
func (b *both) isOf(t *testing.T, key int) {
	t.Helper()
	want, wantOK := b.p.find(key)
	if past, ok := b.x.Past(key); past != want.past() || ok != wantOK {
		t.Fatalf("Past(%d): %v, %v, want %v, %v", key, past, ok, want.past(), wantOK)
	}
	if got := string(b.x.Rest(key)); got != want.rest() {
		t.Fatalf("Rest(%d): %q, want %q", key, got, want.rest())
	}
}

// says: this must be the whole text, by the chapter's words and not by the plain one's alone.
func (b *both) says(t *testing.T, lines ...string) {
	t.Helper()
	b.tells(t)
	want := ""
	for _, line := range lines {
		want += line + "\n"
	}
	if got := b.x.Text(); got != want {
		t.Fatalf("Text: %q, want %q", got, want)
	}
}

// manyKeys: keys at the edges of their numbers, and some that are alike if one is cut to fewer bits or taken with another sign, rising.
var manyKeys = []int{
	math.MinInt, math.MinInt + 1, -1<<32 - 1, -1 << 32, -1 << 31, -65536, -256, -255, -100, -10, -9, -2, -1,
	0, 1, 2, 9, 10, 11, 99, 100, 255, 256, 65536, 1<<31 - 1, 1 << 31, 1<<32 - 1, 1 << 32, 1<<32 + 1, math.MaxInt - 1, math.MaxInt,
}

// counted: n bytes, of which those that follow one another differ, and which don't come round soon.
func counted(n int) string {
	all := make([]byte, n)
	for i := range all {
		all[i] = byte(i + i/256 + i/65536)
	}
	return string(all)
}

// cuttings: each way to cut the text into pieces goes to use, none of them empty.
func cuttings(text string, use func(pieces []string)) {
	for where := range 1 << (len(text) - 1) {
		var pieces []string
		from := 0
		for i := 1; i < len(text); i++ {
			if where>>(i-1)&1 == 1 {
				pieces = append(pieces, text[from:i])
				from = i
			}
		}
		use(append(pieces, text[from:]))
	}
}

// orders: each order of the numbers 0 to n - 1 goes to use.
func orders(n int, use func(order []int)) {
	var add func(order []int)
	add = func(order []int) {
		if len(order) == n {
			use(order)
		}
		for i := range n {
			if !slices.Contains(order, i) {
				add(append(slices.Clone(order), i))
			}
		}
	}
	add(nil)
}
