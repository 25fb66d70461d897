package specimens_test

import (
	"testing"

	"culvert/api"
	"culvert/draws"
	"culvert/frame"
	"culvert/specimens"
)

func TestBytesAreThoseOfTheFrames(t *testing.T) {
	got := specimens.Bytes(specimens.Data(api.FlagFIN, 258, "ab"), specimens.Bare(api.TypePing, api.FlagSYN, 0, 7))
	if string(got) != "\x00\x00\x00\x04\x00\x00\x01\x02\x00\x00\x00\x02ab"+"\x00\x02\x00\x01\x00\x00\x00\x00\x00\x00\x00\x07" {
		t.Errorf("%x", got)
	}
	if got := specimens.Bytes(); len(got) != 0 {
		t.Errorf("of no frame: %x", got)
	}
}

func TestSame(t *testing.T) {
	a, b := specimens.Data(0, 1, "a"), specimens.Data(0, 1, "b")
	none := a
	none.Data = nil
	for _, c := range []struct {
		one, other []api.Frame
		same       bool
	}{
		{nil, nil, true},
		{nil, []api.Frame{}, true},
		{[]api.Frame{a, b}, []api.Frame{a, b}, true},
		{[]api.Frame{a, b}, []api.Frame{b, a}, false},
		{[]api.Frame{a, b}, []api.Frame{a}, false},
		{[]api.Frame{a}, []api.Frame{none}, false},
		{[]api.Frame{a}, []api.Frame{specimens.Data(0, 2, "a")}, false},
	} {
		if got := specimens.Same(c.one, c.other); got != c.same {
			t.Errorf("Same(%v, %v): %v", c.one, c.other, got)
		}
	}
}

func TestDrawnFramesMayBeAndAreOfAllTypes(t *testing.T) {
	d := draws.Draws(1)
	var types [4]int
	longest := 0
	for range 2000 {
		f := specimens.Drawn(&d, 5)
		if err := frame.Check(f.Head, 5); err != nil || len(f.Data) != frame.Size(f.Head) {
			t.Fatalf("%v: %v", f, err)
		}
		types[f.Head.Type]++
		longest = max(longest, len(f.Data))
	}
	for kind, n := range types {
		if n == 0 {
			t.Errorf("none is of type %d", kind)
		}
	}
	if longest != 5 {
		t.Errorf("the longest payload has %d bytes", longest)
	}
}

func TestSpoilWritesOverTheSpareRoomToo(t *testing.T) {
	room := []byte("abcdef")
	specimens.Spoil(room[1:2:4])
	if string(room) != "a\x9d\x9c\x9bef" {
		t.Errorf("%q", room)
	}
}
