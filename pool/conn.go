package pool

import (
	"slices"

	"culvert/api"
	"culvert/link"
	"culvert/session"
)

// The ends of a connection, as its link numbers them.
const (
	nearEnd = 0
	farEnd  = 1
)

// conn is a place with its connection. Without one all parts are zero, and a nil link's nil session answers as an empty one.
type conn struct {
	life int // which connection of the place it is
	link *link.Link
	open []uint32 // the open streams, rising, as they stood behind the last call: whichever of them leaves by a step or with the session, its handle must go
}

func (c *conn) near() *session.Session { return c.link.End(nearEnd) }

func (c *conn) lives() bool { return c.link != nil && c.near().Err() == nil }

func (c *conn) draining() bool {
	here, there := c.near().Away()
	return here || there
}

func (c *conn) drained() bool { return c.lives() && c.draining() && len(c.open) == 0 }

// own: the open streams, as the near session tells them.
func (c *conn) own() []uint32 {
	return slices.DeleteFunc(c.near().Streams(), func(id uint32) bool { return id%2 == 0 })
}

// nextID: the number that the next stream will have: so many are left of the odd ones, the last of which is 2^32 - 1.
func (c *conn) nextID() uint32 { return uint32(1<<32 + 1 - 2*c.near().Left()) }

// rounds: so many rounds of the link; the open streams behind them.
func (c *conn) rounds(n int) []uint32 {
	for range n { // all of them, also where the near session is over by one: its Away is laid out by a later one
		c.link.Round()
	}
	return c.own()
}

// do: an operation of one end.
func (c *conn) do(end int, op api.LinkOp) (api.LinkResult, error) {
	op.End = end
	return c.link.Do(op)
}
