package pool

import (
	"errors"
	"testing"

	"culvert/api"
)

// No run of calls uses the handles up, so here there is none that could be given: Bind fails, with another sentinel than where they are used up.
func TestP23_2_NothingIsOpenedForWantOfHandles(t *testing.T) {
	cfg := api.Config{Window: 4, Stage: 8, Frame: 3, Streams: 4, Backlog: 2, Pings: 1, Out: 64, Skip: 5}
	p, err := New(2, 2, cfg)
	if err != nil {
		t.Fatal(err)
	}
	for k := range 2 {
		if err := p.Connect(k); err != nil {
			t.Fatal(err)
		}
	}
	before, _ := p.Conn(0)
	kept := p.handles
	p.handles = nil
	for range 3 {
		if h, err := p.Open(); h != 0 || !errors.Is(err, api.ErrNil) {
			t.Fatalf("Open: %d, %v", h, err)
		}
	}
	p.handles = kept
	near := p.Link(0).End(0)
	if after, _ := p.Conn(0); after != before || len(near.Streams()) != 0 || len(near.Tickets()) != 0 {
		t.Errorf("something was opened: %+v, streams %v, tickets %v", after, near.Streams(), near.Tickets())
	}
	h, err := p.Open()
	if at, _ := p.Handle(h); h != 1 || at != (api.Place{Conn: 0, Life: 1, ID: 11}) || err != nil {
		t.Errorf("Open: %d at %v, %v", h, at, err)
	}
}
