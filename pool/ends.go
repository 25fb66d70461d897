package pool

import (
	"sync"

	"culvert/api"
)

// Far: an operation at the far end of a connection (End isn't looked at).
func (p *Pool) Far(k int, op api.LinkOp) (api.LinkResult, error) {
	c, err := p.linked(k)
	switch {
	case err != nil:
		return api.LinkResult{}, err
	case op.Kind == api.DoCut: // of both ends
		return api.LinkResult{}, api.ErrRange
	}
	r, err := c.do(farEnd, op)
	if op.Kind == api.DoPass { // the near session has heard something, and may be over
		p.settle(k, c.own())
	}
	return r, err
}

// Near: an operation at the near end of a connection that concerns no stream (End is not looked at).
func (p *Pool) Near(k int, op api.LinkOp) (api.LinkResult, error) {
	c, err := p.linked(k)
	switch {
	case err != nil:
		return api.LinkResult{}, err
	case !isNear(op.Kind):
		return api.LinkResult{}, api.ErrRange
	}
	r, err := c.do(nearEnd, op)
	if op.Kind == api.DoStep { // a stream whose end was told leaves with its last frame
		p.settle(k, c.own())
	}
	return r, err
}

// Rounds: so many rounds of every connection that lives, side by side.
func (p *Pool) Rounds(n int) error {
	switch {
	case p == nil:
		return api.ErrNil
	case n < 0 || n > api.MaxRounds:
		return api.ErrRange
	}
	open := make([][]uint32, len(p.conns)) // by place, behind the rounds
	var all sync.WaitGroup
	for k := range p.conns {
		c := &p.conns[k]
		if !c.lives() {
			open[k] = c.open
			continue
		}
		all.Add(1)
		go func() {
			defer all.Done()
			open[k] = c.rounds(n)
		}()
	}
	all.Wait()
	for k, now := range open { // behind all of them: the handles are everybody's
		p.settle(k, now)
	}
	return nil
}

// linked: what stands at a place where there was a connection at some time.
func (p *Pool) linked(k int) (*conn, error) {
	c, err := p.at(k)
	if err == nil && c.link == nil {
		return nil, api.ErrNoConn
	}
	return c, err
}

// isNear: is it one of those that the pool's user may do at the near end? The others concern a stream, or the whole link, or are the other end's.
func isNear(kind api.LinkKind) bool {
	switch kind {
	case api.DoPing, api.DoPongs, api.DoAway, api.DoStep, api.DoSend, api.DoPass:
		return true
	}
	return false
}
