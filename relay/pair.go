package relay

import (
	"errors"

	"culvert/api"
	"culvert/pool"
	"culvert/ring"
	"culvert/session"
)

// pair is a front stream with its handle at the pool, and the bytes between them.
type pair struct {
	front    uint32
	handle   int
	up, down direction
}

// direction is one way of a pair. It doesn't know which: where it reads and what it hands on to are functions.
type direction struct {
	bytes *ring.Ring[byte] // those that were read and not taken yet
	ended bool             // the end of stream was told where it reads
	done  bool             // and was handed on
	read  func(n int) ([]byte, error)
	hand  func(b []byte) (int, error) // hands bytes on: how many were taken
	close func() error                // hands the end on
}

func newPair(front *session.Session, id uint32, p *pool.Pool, handle, size int) *pair {
	up := direction{
		bytes: newBytes(size),
		read:  func(n int) ([]byte, error) { return front.Read(id, n) },
		hand:  func(b []byte) (int, error) { return p.Write(handle, b) },
		close: func() error { return p.Close(handle) },
	}
	down := direction{
		bytes: newBytes(size),
		read:  func(n int) ([]byte, error) { return p.Read(handle, n) },
		hand:  func(b []byte) (int, error) { return front.Write(id, b) },
		close: func() error { return front.Close(id) },
	}
	return &pair{front: id, handle: handle, up: up, down: down}
}

func newBytes(size int) *ring.Ring[byte] {
	bytes, _ := ring.New[byte](size) // never fails: a relay's size is far below a ring's greatest
	return bytes
}

// carry: up, then down; how many bytes went on, those ahead of the failure too. It fails where the pair breaks.
func (p *pair) carry() (int, error) {
	up, err := p.up.carry(p.down.done)
	if err != nil {
		return up, err
	}
	down, err := p.down.carry(p.up.done)
	return up + down, err
}

func (p *pair) done() bool { return p.up.done && p.down.done }

func (p *pair) held() int { return p.up.bytes.Len() + p.down.bytes.Len() }

func (p *pair) view() api.Pair {
	return api.Pair{
		Front: p.front, Handle: p.handle,
		Up: p.up.bytes.Len(), Down: p.down.bytes.Len(),
		UpDone: p.up.done, DownDone: p.down.done,
	}
}

// carry: reads, hands on, and hands the end on behind the last byte; how many bytes went on.
func (d *direction) carry(backDone bool) (int, error) {
	if !d.ended || !backDone { // else the stream may have left its table
		if err := d.fetch(); err != nil {
			return 0, err
		}
	}
	n, err := d.pass()
	if err != nil {
		return n, err
	}
	return n, d.finish()
}

// fetch: as much as there is room for is read; behind the end, and where there is no room, a reset is heard of all the same.
func (d *direction) fetch() error {
	room := d.bytes.Free()
	if d.ended {
		room = 0
	}
	b, err := d.read(room)
	d.bytes.Push(b)
	if errors.Is(err, api.ErrEOF) {
		d.ended = true
		return nil
	}
	return err
}

// pass: all that is held is handed on, and as much of it as was taken let go; how many bytes.
func (d *direction) pass() (int, error) {
	if d.bytes.Len() == 0 {
		return 0, nil
	}
	n, err := d.hand(d.bytes.Peek(d.bytes.Len()))
	d.bytes.Drop(n)
	return n, err
}

// finish: the end is handed on, if it was told and nothing is held any more.
func (d *direction) finish() error {
	if !d.ended || d.done || d.bytes.Len() > 0 {
		return nil
	}
	if err := d.close(); err != nil {
		return err
	}
	d.done = true
	return nil
}
