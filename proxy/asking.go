package proxy

import (
	"errors"

	"culvert/api"
	"culvert/msg"
	"culvert/pool"
)

// asking is a key that is being asked, on a stream of its own.
type asking struct {
	pool    *pool.Pool
	handle  int
	key     string
	outbox  []byte // of the question what the pool has not taken yet
	closed  bool   // the handle
	reader  *msg.Reader
	given   [][]byte    // the messages that have come: one is the answer, two are none
	waiting []*question // in the order in which they were looked at
}

func newAsking(p *pool.Pool, handle int, key string) *asking {
	return &asking{pool: p, handle: handle, key: key, outbox: message([]byte(key)), reader: newReader(api.MaxAnswer)}
}

// goOn: the step that its questions take: they wait on, or have the value, or are refused.
func (g *asking) goOn() step {
	if g.ask() != nil {
		return refused{}
	}
	return g.hear()
}

// ask: the question is handed on, and the end behind its last byte.
func (g *asking) ask() error {
	if len(g.outbox) > 0 {
		n, err := g.pool.Write(g.handle, g.outbox)
		if err != nil {
			return err
		}
		g.outbox = behind(g.outbox, n)
	}
	if len(g.outbox) > 0 || g.closed {
		return nil
	}
	err := g.pool.Close(g.handle)
	g.closed = err == nil
	return err
}

// hear: what has come is read, all of it.
func (g *asking) hear() step {
	for {
		b, err := g.pool.Read(g.handle, piece)
		switch {
		case errors.Is(err, api.ErrEOF):
			return g.end()
		case err != nil:
			return refused{}
		case len(b) == 0:
			return waits{}
		case !g.feed(b):
			return refused{}
		}
	}
}

// feed: may these bytes be, behind those that came?
func (g *asking) feed(b []byte) bool {
	messages, err := g.reader.Feed(b)
	g.given = append(g.given, messages...)
	return err == nil && len(g.given) <= 1
}

// end: behind the far end's last byte: was it all one message?
func (g *asking) end() step {
	if len(g.given) != 1 || g.reader.Done() != nil {
		return refused{}
	}
	return found{string(g.given[0])}
}

func (g *asking) view() api.Asked {
	ids := make([]uint32, 0, len(g.waiting))
	for _, q := range g.waiting {
		ids = append(ids, q.asker.id)
	}
	return api.Asked{Key: g.key, Handle: g.handle, Waiting: ids}
}

func (g *asking) held() int {
	held := len(g.outbox) + g.reader.Held()
	for _, m := range g.given {
		held += len(m)
	}
	return held
}
