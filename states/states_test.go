package states_test

import (
	"math"
	"slices"
	"strings"
	"sync"
	"testing"

	"culvert/api"
	"culvert/draws"
	"culvert/sentinels"
	"culvert/states"
)

// The document's table, word for word.
const (
	heading = "EvOpen EvSyn EvAccept EvAck EvFinOut EvFinIn EvReset"
	table   = `
Init         SynSent SynRecv -            -            -           -            -
SynSent      -       -       -            Established  LocalClosed RemoteClosed Reset
SynRecv      -       -       Established  -            LocalClosed RemoteClosed Reset
Established  -       -       -            -            LocalClosed RemoteClosed Reset
LocalClosed  -       -       LocalClosed  LocalClosed  -           Closed       Reset
RemoteClosed -       -       RemoteClosed RemoteClosed Closed      -            Reset
Closed       -       -       Closed       Closed       -           -            Reset
Reset        -       -       -            -            -           -            Reset`
)

var stateOf = map[string]api.State{
	"Init": api.Init, "SynSent": api.SynSent, "SynRecv": api.SynRecv, "Established": api.Established,
	"LocalClosed": api.LocalClosed, "RemoteClosed": api.RemoteClosed, "Closed": api.Closed, "Reset": api.Reset,
}

var eventOf = map[string]api.Event{
	"EvOpen": api.EvOpen, "EvSyn": api.EvSyn, "EvAccept": api.EvAccept, "EvAck": api.EvAck,
	"EvFinOut": api.EvFinOut, "EvFinIn": api.EvFinIn, "EvReset": api.EvReset,
}

var allEvents = []api.Event{api.EvOpen, api.EvSyn, api.EvAccept, api.EvAck, api.EvFinOut, api.EvFinIn, api.EvReset}

// noStates and noEvents: numbers beside the range, and such as would fall into it if their upper bits, or their sign, were lost.
var (
	noStates = wrongs(8)
	noEvents = wrongs(7)
)

// wrongs: numbers that are not from 0 to count - 1.
func wrongs(count int) []int {
	all := []int{count, count + 1, 99, 255, 1<<31 - 1, 1 << 31, math.MaxInt64 - 1, math.MaxInt64,
		-99, -(1 << 31), -(1 << 31) - 1, math.MinInt64 + 1, math.MinInt64}
	for v := range count {
		for _, far := range []int{1 << 8, 1 << 16, 1 << 32, 1 << 62, math.MinInt64} {
			all = append(all, far+v)
		}
		all = append(all, -v-1)
	}
	return all
}

// step is a place of the table.
type step struct {
	from api.State
	by   api.Event
}

// ways: the table's places that aren't dashes.
func ways() map[step]api.State {
	found := map[step]api.State{}
	for _, line := range strings.Split(strings.TrimSpace(table), "\n") {
		words := strings.Fields(line)
		for i, event := range strings.Fields(heading) {
			if to, ok := stateOf[words[i+1]]; ok {
				found[step{stateOf[words[0]], eventOf[event]}] = to
			}
		}
	}
	return found
}

// goes: a Next that must answer so.
func goes(t *testing.T, s api.State, e api.Event, to api.State, want error) {
	t.Helper()
	if got, err := states.Next(s, e); got != to || !sentinels.Just(err, want) {
		t.Errorf("Next(%d, %d): %d, %v, want %d, %v", s, e, got, err, to, want)
	}
}

// plays: a Play that must answer so.
func plays(t *testing.T, events []api.Event, to api.State, taken int, want error) {
	t.Helper()
	if got, n, err := states.Play(events); got != to || n != taken || !sentinels.Just(err, want) {
		t.Fatalf("Play(%d): %d, %d, %v, want %d, %d, %v", events, got, n, err, to, taken, want)
	}
}

// plainPlay: what a Play must answer by the document's table.
func plainPlay(known map[step]api.State, events []api.Event) (api.State, int, error) {
	s := api.Init
	for n, e := range events {
		if !slices.Contains(allEvents, e) {
			return s, n, api.ErrRange
		}
		to, ok := known[step{s, e}]
		if !ok {
			return s, n, api.ErrState
		}
		s = to
	}
	return s, len(events), nil
}

// eachList hands on every list of these events with at most so many of them.
func eachList(of []api.Event, most int, see func([]api.Event)) {
	list := make([]api.Event, 0, most)
	var grow func()
	grow = func() {
		see(list)
		if len(list) == most {
			return
		}
		for _, e := range of {
			list = append(list, e)
			grow()
			list = list[:len(list)-1]
		}
	}
	grow()
}

// count: how often the event stands in the list.
func count(events []api.Event, e api.Event) int {
	n := 0
	for _, x := range events {
		if x == e {
			n++
		}
	}
	return n
}

func TestP9_1_TheTable(t *testing.T) {
	known := ways()
	if len(known) != 25 {
		t.Fatalf("the test's table has %d ways, want 25", len(known))
	}
	for _, s := range stateOf {
		for _, e := range allEvents {
			if to, ok := known[step{s, e}]; ok {
				goes(t, s, e, to, nil)
			} else {
				goes(t, s, e, api.Init, api.ErrState)
			}
		}
	}
}

func TestP9_1_TheChaptersExamples(t *testing.T) {
	goes(t, api.Init, api.EvOpen, api.SynSent, nil)
	goes(t, api.SynSent, api.EvFinOut, api.LocalClosed, nil)
	goes(t, api.LocalClosed, api.EvAck, api.LocalClosed, nil)
	goes(t, api.Established, api.EvAck, 0, api.ErrState)
	goes(t, api.Closed, api.EvReset, api.Reset, nil)
	goes(t, 8, api.EvOpen, 0, api.ErrRange)
	goes(t, api.Init, -1, 0, api.ErrRange)
}

func TestP9_1_WhatIsNoStateOrNoEvent(t *testing.T) {
	for _, s := range noStates {
		for _, e := range allEvents {
			goes(t, api.State(s), e, 0, api.ErrRange)
		}
		for _, e := range noEvents {
			goes(t, api.State(s), api.Event(e), 0, api.ErrRange)
		}
	}
	for _, s := range stateOf {
		for _, e := range noEvents {
			goes(t, s, api.Event(e), 0, api.ErrRange)
		}
	}
}

func TestP9_2_TheChaptersExamples(t *testing.T) {
	plays(t, []api.Event{api.EvSyn, api.EvFinIn, api.EvAccept, api.EvFinOut}, api.Closed, 4, nil)
	plays(t, []api.Event{api.EvOpen, api.EvFinIn, api.EvFinIn, api.EvAck}, api.RemoteClosed, 2, api.ErrState)
	plays(t, []api.Event{api.EvOpen, 9}, api.SynSent, 1, api.ErrRange)
	plays(t, []api.Event{}, api.Init, 0, nil)
}

func TestR5_PlayTakesNilAsNoEvents(t *testing.T) {
	plays(t, nil, api.Init, 0, nil)
}

func TestP9_2_EveryListUpToSixEvents(t *testing.T) {
	known := ways()
	of := append(slices.Clone(allEvents), -1, 7)
	eachList(of, 6, func(events []api.Event) {
		to, taken, want := plainPlay(known, events)
		plays(t, events, to, taken, want)
	})
}

func TestP9_2_TheFirstFailureIsTold(t *testing.T) {
	plays(t, []api.Event{api.EvOpen, api.EvOpen, 9, api.EvAck}, api.SynSent, 1, api.ErrState)
	plays(t, []api.Event{api.EvOpen, 9, api.EvOpen, api.EvAck}, api.SynSent, 1, api.ErrRange)
	for _, e := range noEvents {
		plays(t, []api.Event{api.Event(e)}, api.Init, 0, api.ErrRange)
		plays(t, []api.Event{api.EvSyn, api.EvAccept, api.EvFinOut, api.Event(e), api.EvFinIn}, api.LocalClosed, 3, api.ErrRange)
	}
}

func TestP9_2_LongLists(t *testing.T) {
	const many = 1 << 20
	acks := append([]api.Event{api.EvOpen, api.EvFinOut}, slices.Repeat([]api.Event{api.EvAck, api.EvAccept}, many)...)
	plays(t, acks, api.LocalClosed, 2+2*many, nil)
	plays(t, append(acks, api.EvFinOut), api.LocalClosed, 2+2*many, api.ErrState)
	resets := append([]api.Event{api.EvSyn}, slices.Repeat([]api.Event{api.EvReset}, many)...)
	plays(t, resets, api.Reset, 1+many, nil)
	plays(t, append(resets, api.EvAck, api.EvReset), api.Reset, 1+many, api.ErrState)
}

func TestP9_2_DrawnLists(t *testing.T) {
	known := ways()
	d := draws.Draws(9)
	for range 20000 {
		events := []api.Event{api.Event(d.Below(2))}
		for range d.Below(60) {
			e := api.Event(2 + d.Below(5))
			if e >= api.EvFinOut && d.Below(4) > 0 { // else nearly all lists would end at once
				e = api.Event(2 + d.Below(2))
			}
			events = append(events, e)
		}
		to, taken, want := plainPlay(known, events)
		plays(t, events, to, taken, want)
		plays(t, events[:taken], to, taken, nil)
	}
}

func TestP9_3_WhatIsAskedOfAState(t *testing.T) {
	for _, c := range []struct {
		state               api.State
		name                string
		sends, hears, final bool
	}{
		{api.Init, "Init", false, false, false},
		{api.SynSent, "SynSent", true, true, false},
		{api.SynRecv, "SynRecv", true, true, false},
		{api.Established, "Established", true, true, false},
		{api.LocalClosed, "LocalClosed", false, true, false},
		{api.RemoteClosed, "RemoteClosed", true, false, false},
		{api.Closed, "Closed", false, false, false},
		{api.Reset, "Reset", false, false, true},
	} {
		if got := states.Sends(c.state); got != c.sends {
			t.Errorf("Sends(%s): %v", c.name, got)
		}
		if got := states.Hears(c.state); got != c.hears {
			t.Errorf("Hears(%s): %v", c.name, got)
		}
		if got := states.Final(c.state); got != c.final {
			t.Errorf("Final(%s): %v", c.name, got)
		}
		if got := states.Name(c.state); got != c.name {
			t.Errorf("Name(%d): %q, want %q", c.state, got, c.name)
		}
	}
}

func TestP9_3_WhatIsNoState(t *testing.T) {
	for _, v := range noStates {
		s := api.State(v)
		if states.Sends(s) || states.Hears(s) || states.Final(s) || states.Name(s) != "" {
			t.Errorf("%d: %v, %v, %v, %q", s, states.Sends(s), states.Hears(s), states.Final(s), states.Name(s))
		}
	}
}

// saysOfEvents holds a list that was taken whole to what P9.4 says of its events.
func saysOfEvents(t *testing.T, events []api.Event) {
	t.Helper()
	if len(events) == 0 {
		return
	}
	if events[0] != api.EvOpen && events[0] != api.EvSyn {
		t.Fatalf("%d: the first is neither EvOpen nor EvSyn", events)
	}
	if count(events[1:], api.EvOpen)+count(events[1:], api.EvSyn) > 0 {
		t.Fatalf("%d: EvOpen or EvSyn behind the first", events)
	}
	if count(events, api.EvFinOut) > 1 || count(events, api.EvFinIn) > 1 {
		t.Fatalf("%d: a direction has two ends", events)
	}
	if first := slices.Index(events, api.EvReset); first >= 0 && count(events, api.EvReset) != len(events)-first {
		t.Fatalf("%d: another event behind EvReset", events)
	}
}

// saysOfState holds what a list that was taken whole has reached to what P9.4 says of it.
func saysOfState(t *testing.T, events []api.Event, s api.State) {
	t.Helper()
	out, in, reset := count(events, api.EvFinOut) > 0, count(events, api.EvFinIn) > 0, count(events, api.EvReset) > 0
	if (s == api.Closed) != (out && in && !reset) {
		t.Fatalf("%d: reaches %d", events, s)
	}
	if (s == api.Reset) != reset {
		t.Fatalf("%d: reaches %d", events, s)
	}
	some := len(events) > 0
	if states.Sends(s) != (some && !out && !reset) {
		t.Fatalf("%d: Sends is %v", events, states.Sends(s))
	}
	if states.Hears(s) != (some && !in && !reset) {
		t.Fatalf("%d: Hears is %v", events, states.Hears(s))
	}
}

func TestP9_4_EveryListThatIsTakenWhole(t *testing.T) {
	whole := 0
	eachList(allEvents, 7, func(events []api.Event) {
		s, _, err := states.Play(events)
		if err != nil {
			return
		}
		whole++
		saysOfEvents(t, events)
		saysOfState(t, events, s)
	})
	if whole < 1000 {
		t.Errorf("only %d lists were taken whole", whole)
	}
}

func TestP9_4_NoWayLeadsBack(t *testing.T) {
	for _, s := range stateOf {
		for _, e := range allEvents {
			to, err := states.Next(s, e)
			if err != nil {
				continue
			}
			if to == api.Init || states.Sends(to) && !states.Sends(s) && s != api.Init || states.Hears(to) && !states.Hears(s) && s != api.Init {
				t.Errorf("Next(%d, %d): %d", s, e, to)
			}
			if states.Final(s) && to != s {
				t.Errorf("Next(%d, %d): %d, and the state is final", s, e, to)
			}
		}
	}
}

func TestR6_PlayLeavesItsListAlone(t *testing.T) {
	for _, full := range [][]api.Event{
		{api.EvSyn, api.EvAccept, api.EvFinIn, api.EvFinOut, 9, -1},
		{api.EvOpen, api.EvOpen, api.EvAck, 7, api.EvReset, api.EvReset},
	} {
		for n := range len(full) + 1 {
			list := slices.Clone(full)
			if _, _, err := states.Play(list[:n]); !slices.Equal(list, full) {
				t.Errorf("Play of the first %d: %v, and the list is %d, was %d", n, err, list, full)
			}
		}
	}
}

func TestR6_PlayKeepsNothingOfItsList(t *testing.T) {
	list := []api.Event{api.EvOpen, api.EvAck, api.EvFinOut}
	plays(t, list, api.LocalClosed, 3, nil)
	list[0], list[1] = api.EvSyn, api.EvAccept
	plays(t, list, api.LocalClosed, 3, nil)
	list[2] = api.EvFinIn
	plays(t, list, api.RemoteClosed, 3, nil)
	plays(t, list[:2], api.Established, 2, nil)
}

func TestR9_NoCallIsToldOfAnother(t *testing.T) {
	known := ways()
	d := draws.Draws(2)
	for range 20000 {
		s, e := api.State(d.Below(10)-1), api.Event(d.Below(9)-1)
		events := []api.Event{api.Event(d.Below(2)), api.Event(d.Below(9) - 1), e}
		to, taken, want := plainPlay(known, events)
		plays(t, events, to, taken, want)
		first, errFirst := states.Next(s, e)
		plays(t, events, to, taken, want)
		if again, err := states.Next(s, e); again != first || !sentinels.Just(err, errFirst) {
			t.Fatalf("Next(%d, %d): %d, %v, and then %d, %v", s, e, first, errFirst, again, err)
		}
	}
}

func TestR9_CallsAtTheSameTime(t *testing.T) {
	known := ways()
	var wg sync.WaitGroup
	for seed := range 8 {
		wg.Go(func() {
			d := draws.Draws(seed)
			for range 2000 {
				events := []api.Event{api.Event(d.Below(2)), api.Event(d.Below(8)), api.Event(d.Below(8))}
				to, taken, want := plainPlay(known, events)
				if got, n, err := states.Play(events); got != to || n != taken || !sentinels.Just(err, want) {
					t.Errorf("Play(%d): %d, %d, %v, want %d, %d, %v", events, got, n, err, to, taken, want)
				}
			}
		})
	}
	wg.Wait()
}
