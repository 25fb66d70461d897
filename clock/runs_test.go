package clock_test

import (
	"errors"
	"fmt"
	"runtime"
	"slices"
	"strings"
	"sync"
	"testing"

	"culvert/api"
	"culvert/clock"
	"culvert/draws"
	"culvert/pool"
	"culvert/specimens"
)

// everyOrder: so many of these in every order, some of them several times.
func everyOrder(t *testing.T, many int, conns int, cfg api.Config, every, patience int, begin []func(b *both), steps []func(b *both)) {
	t.Helper()
	orders := 1
	for range many {
		orders *= len(steps)
	}
	for order := range orders {
		b := connected(t, conns, cfg, every, patience)
		for _, step := range begin {
			step(b)
		}
		for range many {
			steps[order%len(steps)](b)
			order /= len(steps)
		}
		b.tells(t)
	}
}

func TestP29_1_EveryOrderOfFewCalls(t *testing.T) {
	tick := func(n int) func(b *both) { return func(b *both) { b.tick(t, n) } }
	does := func(moves ...move) func(b *both) { return func(b *both) { b.all(t, moves...) } }
	steps := []func(b *both){
		tick(1), tick(2), does(carries(0)), does(brings(near, 0)), does(brings(far, 0)), does(connects(0)), does(cuts(0)),
		does(near(0, api.DoPing)), does(near(0, api.DoPongs)), does(near(0, api.DoAway)), does(injects(0, asks(77)), brings(far, 0)),
	}
	everyOrder(t, 4, 1, pings(1), 1, 1, nil, steps)
	everyOrder(t, 4, 1, pings(2), 2, 3, []func(b *both){tick(2)}, steps)
	everyOrder(t, 4, 1, pings(3), 1, 3, []func(b *both){tick(1), tick(1)}, steps)
	everyOrder(t, 7, 2, pings(2), 1, 2, nil, append(slices.Clone(steps[:3:3]), does(connects(0), connects(1))))
}

// drawnMove: something that may be done at a connection, its keeper aside.
func drawnMove(row *draws.Draws, c int) move {
	switch row.Below(40) {
	case 0, 1:
		return cuts(c)
	case 2, 3, 4, 5:
		return connects(c)
	case 6, 7:
		return near(c, api.DoPing)
	case 8:
		return near(c, api.DoPongs)
	case 9:
		return near(c, api.DoAway)
	case 10:
		return injects(c, asks(uint32(row.Below(9))))
	case 11:
		return injects(c, specimens.Data(0, 99, "x"))
	case 12:
		return opens()
	case 13:
		return far(c, api.DoAccept)
	case 14:
		return rounds(row.Below(3))
	case 15, 16, 17:
		return brings(near, c)
	case 18, 19, 20:
		return brings(far, c)
	case 21, 22:
		return [...]move{near(c, api.DoStep), near(c, api.DoSend), near(c, api.DoPass)}[row.Below(3)]
	case 23:
		return far(c, api.DoPing)
	}
	return carries(c)
}

// drawnBoth: few places, connections at some of them, and small numbers, so that all of it is met often.
func drawnBoth(t *testing.T, row *draws.Draws) *both {
	t.Helper()
	cfg := pings(1 + row.Below(4))
	cfg.Out = 1 + row.Below(40)
	conns := 1 + row.Below(4)
	var ahead []move
	for range row.Below(2 * conns) {
		ahead = append(ahead, connects(row.Below(conns)), drawnMove(row, row.Below(conns)))
	}
	return made(t, conns, cfg, 1+row.Below(5), 1+row.Below(7), ahead...)
}

// tally: how often each sort of thing has come about.
type tally map[string]int

// before is what could be seen of a connection ahead of a Tick.
type before struct {
	view     api.ConnView
	seen     string
	pinged   int
	due      int
	kept     bool
	lateThen int
}

func (b *both) before(conn int) before {
	v, _ := b.p.Conn(conn)
	due, kept := b.k.Due(conn)
	late, _ := b.k.Late(conn)
	return before{v, seen(b.p, conn), len(b.p.Link(conn).End(0).Pinged()), due, kept, late}
}

// touches: a Tick, which must touch each connection as P29.4 says; what came about is counted.
func (b *both) touches(t *testing.T, n int, counts tally) {
	t.Helper()
	var all []before
	for c := range b.w.records {
		all = append(all, b.before(c))
	}
	lives := make([]int, len(all)) // of the records
	for c, r := range b.w.records {
		if r != nil {
			lives[c] = r.life
		}
	}
	mishaps, err := b.tick(t, n)
	if err != nil {
		t.Fatal(err)
	}
	b.tells(t)
	for c, was := range all {
		kind := b.touched(t, c, was, lives[c], slices.Contains(mishaps, cut(c, was.view.Life)))
		counts[kind]++
	}
}

// touched: what the Tick has done about a connection, which must be what P29.4 says.
func (b *both) touched(t *testing.T, c int, was before, life int, mishap bool) string {
	t.Helper()
	is := b.before(c)
	untouched := was.seen == is.seen
	switch {
	case mishap:
		if !was.view.Live || is.view.Live || is.kept || !errors.Is(b.p.Link(c).End(0).Err(), api.ErrCut) || was.view.Life != life {
			t.Fatalf("P29.4: %d was cut: %+v, %+v", c, was, is)
		}
		return "cut"
	case !was.view.Live:
		if !untouched || is.kept {
			t.Fatalf("P29.4: %d, where none lives: %+v, %+v", c, was, is)
		}
		return fmt.Sprint("none lives, kept ", was.kept)
	case !was.kept || was.view.Life != life:
		if !untouched || !is.kept || is.due != b.k.Now()+b.w.every {
			t.Fatalf("P29.4: %d, where a record begins: %+v, %+v", c, was, is)
		}
		return fmt.Sprint("begins, kept ", was.kept)
	case was.due > b.k.Now():
		if !untouched || is.due != was.due {
			t.Fatalf("P29.4: %d, which isn't due: %+v, %+v", c, was, is)
		}
		return "not due"
	case is.pinged == was.pinged:
		if !untouched || is.due != b.k.Now()+b.w.every {
			t.Fatalf("P29.4: %d, whose ping failed: %+v, %+v", c, was, is)
		}
		return "ping failed"
	}
	if is.pinged != was.pinged+1 || is.due != b.k.Now()+b.w.every {
		t.Fatalf("P29.4: %d, which was pinged: %+v, %+v", c, was, is)
	}
	return fmt.Sprint("pinged, one waits ", is.lateThen < b.k.Now())
}

// Drawn runs of two pools with a keeper each, which don't touch each other.
func TestP29_4_DrawnRuns(t *testing.T) {
	counts := tally{}
	for begin := range 300 {
		row := draws.Draws(begin)
		two := []*both{drawnBoth(t, &row), drawnBoth(t, &row)}
		for range 150 {
			b := two[row.Below(2)]
			if row.Below(4) == 0 {
				b.touches(t, 1+row.Below(1+row.Below(6)), counts)
			} else {
				b.all(t, drawnMove(&row, row.Below(len(b.w.records))))
			}
			b.k.Tick(-row.Below(2)) // which fails
		}
		two[0].tells(t)
		two[1].tells(t)
	}
	for _, kind := range []string{
		"cut", "none lives, kept true", "none lives, kept false", "begins, kept true", "begins, kept false",
		"not due", "ping failed", "pinged, one waits true", "pinged, one waits false",
	} {
		if counts[kind] < 50 {
			t.Errorf("%s: only %d times, of %v", kind, counts[kind], counts)
		}
	}
}

// P29.2 by its own words: all pings are answered between any two Ticks, and nobody else asks for the answers; the rest is drawn.
func TestP29_2_WhoAnswersIsNeverCut(t *testing.T) {
	pinged := 0
	for begin := range 200 {
		row := draws.Draws(begin)
		cfg := pings(1 + row.Below(3))
		cfg.Out, cfg.Frame = 1+row.Below(30), 1+row.Below(3)
		p := newPool(t, 2, cfg)
		p.Connect(0)
		p.Connect(1)
		k := newKeeper(t, p, 1+row.Below(4), 1+row.Below(3))
		for range 60 {
			for range row.Below(6) {
				lawful(&row, p)
			}
			carries(0)(p)
			carries(1)(p)
			if waits := p.Link(0).End(0).Pinged(); len(waits) > 0 {
				t.Fatalf("not answered: %v", waits)
			}
			if got, err := k.Tick(1 + row.Below(1+row.Below(50))); len(got) != 0 || err != nil {
				t.Fatalf("Tick: %v, %v", got, err)
			}
			pinged += len(p.Link(0).End(0).Pinged())
		}
		for c := range 2 {
			if v, _ := p.Conn(c); !v.Live || v.Life != 1 {
				t.Fatalf("Conn(%d): %+v", c, v)
			}
		}
	}
	if pinged < 5000 {
		t.Errorf("only %d pings", pinged)
	}
}

// lawful: something that lawful ends do with each other.
func lawful(row *draws.Draws, p *pool.Pool) {
	c, h := row.Below(2), 1+row.Below(8)
	switch row.Below(12) {
	case 0:
		p.Open()
	case 1:
		p.Write(h, []byte("abcdef")[:row.Below(7)])
	case 2:
		p.Read(h, row.Below(4))
	case 3:
		p.Close(h)
	case 4:
		p.Reset(h)
	case 5:
		far(c, api.DoAccept)(p)
	case 6:
		p.Far(c, api.LinkOp{Kind: api.DoRead, ID: uint32(h), N: 2})
	case 7:
		p.Far(c, api.LinkOp{Kind: api.DoWrite, ID: uint32(h), Data: []byte("xyz")})
	case 8:
		near(c, api.DoPing)(p)
	case 9:
		far(c, api.DoPing)(p)
	case 10:
		far(c, api.DoPongs)(p)
	case 11:
		if row.Below(9) == 0 {
			near(c, api.DoAway)(p)
		}
	}
}

// quiets are ways in which a connection lives and answers nothing: each is done alone at its connection, behind each Tick.
var quiets = [][]func(c int) move{
	{},
	{func(c int) move { return near(c, api.DoStep) }, func(c int) move { return near(c, api.DoSend) }},
	{func(c int) move { return brings(near, c) }},
	{func(c int) move { return brings(near, c) }, func(c int) move { return far(c, api.DoStep) }, func(c int) move { return far(c, api.DoSend) }},
	{func(c int) move { return far(c, api.DoPing) }, func(c int) move { return brings(far, c) }, func(c int) move { return near(c, api.DoPongs) }},
	{func(c int) move { return near(c, api.DoAway) }, func(c int) move { return near(c, api.DoStep) }},
}

// silent is a connection that answers nothing, as P29.3 sees it.
type silent struct{ life, begun, asked int }

// P29.3 by its own words: the Tick at which the first ping was asked, and the first one at which that has waited long enough, are read off the times alone.
func TestP29_3_WhoAnswersNothingIsCutJustThen(t *testing.T) {
	total := 0
	for begin := range 600 {
		row := draws.Draws(begin)
		every, patience, conns := 1+row.Below(6), 1+row.Below(9), 1+row.Below(5)
		p := newPool(t, conns, pings(1+row.Below(5)))
		all := make([]silent, conns)
		for c := range conns {
			if row.Below(2) == 0 {
				p.Connect(c)
				all[c].life = 1
			}
		}
		k := newKeeper(t, p, every, patience)
		for now := 0; now < 80; {
			n := 1 + row.Below(1+row.Below(8))
			now += n
			var want []api.Mishap
			lived := make([]bool, conns)
			for c := range all {
				v, _ := p.Conn(c)
				lived[c] = v.Live
				if v.Live && all[c].goesOn(v.Life, now, every, patience) {
					want = append(want, cut(c, all[c].life))
				}
			}
			total += len(want)
			if got, err := k.Tick(n); !slices.Equal(got, want) || err != nil {
				t.Fatalf("run %d: Tick to %d: %v, %v, want %v", begin, now, got, err, want)
			}
			for c := range all {
				if v, _ := p.Conn(c); v.Live != (lived[c] && !slices.Contains(want, cut(c, v.Life))) {
					t.Fatalf("run %d, at %d: Conn(%d) %+v, mishaps %v", begin, now, c, v, want)
				}
				for _, quiet := range quiets[(c+begin)%len(quiets)] {
					quiet(c)(p)
				}
			}
			if row.Below(5) == 0 {
				p.Connect(row.Below(conns))
			}
		}
	}
	if total < 2000 {
		t.Errorf("only %d were cut", total)
	}
}

// goesOn: at the time now a connection lives in this life; must it be cut?
func (s *silent) goesOn(life, now, every, patience int) bool {
	switch {
	case life != s.life:
		*s = silent{life: life, begun: now}
	case s.asked == 0 && now >= s.begun+every:
		s.asked = now
	case s.asked > 0:
		return now >= s.asked+patience
	}
	return false
}

// P29.5: what was answered stays as it was, whatever is done behind it.
func TestP29_5_MishapsAreNewMemory(t *testing.T) {
	b := connected(t, 8, small(), 1, 1)
	b.ticks(t, 1)
	first, err := b.k.Tick(1)
	if len(first) != 8 || err != nil {
		t.Fatalf("Tick: %v, %v", first, err)
	}
	kept := slices.Clone(first)
	for c := range 8 {
		b.p.Connect(c)
	}
	b.k.Tick(1)
	b.k.Tick(1)
	second, err := b.k.Tick(1)
	if len(second) != 8 || err != nil || !slices.Equal(first, kept) {
		t.Fatalf("Tick: %v, %v; the first list is %v", second, err, first)
	}
	clear(first[:cap(first)])
	for c, m := range second {
		if m != cut(c, 2) {
			t.Errorf("the second list is %v", second)
		}
	}
}

// All pings that may wait do, and are answered at one time, or all but one.
func TestP29_1_ManyPingsAtOneTime(t *testing.T) {
	for _, most := range []int{2, 1023, 1024} {
		b := connected(t, 1, pings(most), 1, 1<<40)
		for range most + 5 {
			b.tick(t, 1)
		}
		b.tells(t)
		b.all(t, rounds(2*most))
		b.ticks(t, 1)
		b.late(t, 0, most+6)
		b.ticks(t, 1)
		b.all(t, brings(near, 0), brings(far, 0))
		b.ticks(t, 1)
		b.late(t, 0, most+7)
	}
}

// A Tick that is told many tokens of others, while many of the keeper's own pings wait for answers that were taken away.
func TestP29_1_ManyTokensOfOthers(t *testing.T) {
	const most, turns = 1024, 60
	p := newPool(t, 1, pings(most))
	p.Connect(0)
	k := newKeeper(t, p, 1, 1<<40)
	for range turns { // each time the answers of half are taken away, so that these wait for good
		for range most / 2 {
			k.Tick(1)
		}
		for range most / 2 {
			near(0, api.DoPing)(p)
		}
		p.Rounds(2*most + 4)
		near(0, api.DoPongs)(p)
	}
	for range turns {
		for range most {
			near(0, api.DoPing)(p)
		}
		p.Rounds(2*most + 4)
	}
	if got, err := k.Tick(1); len(got) != 0 || err != nil {
		t.Errorf("Tick: %v, %v", got, err)
	}
	told(t, "Late", k.Late, 0, 1)
}

// held: the bytes that are in use.
func held() int {
	runtime.GC()
	runtime.GC()
	var m runtime.MemStats
	runtime.ReadMemStats(&m)
	return int(m.HeapAlloc)
}

// However long the clock has gone, what is kept goes with the connections and pings that are there.
func TestP29_1_WhatIsKeptDoesNotGrowWithTheTime(t *testing.T) {
	const turns = 1 << 14
	p := newPool(t, 4, pings(4))
	k := newKeeper(t, p, 1, 3)
	churn := func() {
		for n := range turns {
			k.Tick(1)
			p.Rounds(2)
			p.Connect(n % 4)
			if n%5 == 0 {
				p.Cut(n % 3)
			}
		}
	}
	churn()
	before := held()
	churn()
	if grown := held() - before; grown > 1<<18 {
		t.Errorf("%d Ticks keep %d bytes", turns, grown)
	}
	runtime.KeepAlive(k)
}

// R9: what is told hangs on nothing but the calls, not on the order in which a map is gone through, nor on other keepers.
func TestR9_KeepersAtTheSameTime(t *testing.T) {
	told := make([]string, 8)
	var all sync.WaitGroup
	for i := range told {
		all.Go(func() { told[i] = history(draws.Draws(i % 2)) })
	}
	all.Wait()
	for i, text := range told {
		if text != told[i%2] {
			t.Errorf("number %d tells something else", i)
		}
	}
	if told[0] == told[1] {
		t.Error("both rows make the same")
	}
}

// history: what a keeper tells while drawn things are done with its pool.
func history(row draws.Draws) string {
	var told strings.Builder
	p, _ := pool.New(40, 1, pings(2))
	k, _ := clock.New(p, 2, 3)
	for range 100 {
		told.WriteString(drawnMove(&row, row.Below(40))(p))
		for range 4 {
			p.Connect(row.Below(40))
		}
		mishaps, err := k.Tick(1)
		told.WriteString(fmt.Sprintln(mishaps, err))
		for c := range 40 {
			told.WriteString(fmt.Sprintln(k.Due(c)))
			told.WriteString(fmt.Sprintln(k.Late(c)))
		}
	}
	return told.String()
}
