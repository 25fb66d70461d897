package script

import (
	"strconv"

	"culvert/api"
)

// far: what the far end of a connection answers.
func (p *Player) far(o order) string {
	r, err := p.pool.Far(o.n[0], api.LinkOp{Kind: o.far, ID: o.id, N: o.n[1], Data: o.data})
	handle := p.opened[o.n[0]][o.id]
	if o.far == api.DoRead {
		return p.gave(handle, r.Data, err)
	}
	must(err)
	p.farWrote(o, handle, r.N)
	switch o.far {
	case api.DoOpen, api.DoAccept:
		return say("id", tell(r.ID))
	case api.DoWrite:
		return say("took", strconv.Itoa(r.N))
	case api.DoPing:
		return say("token", tell(r.ID))
	case api.DoPongs:
		return list("pongs", r.IDs)
	case api.DoStep:
		return say("step", strconv.Itoa(r.N))
	case api.DoSend, api.DoPass:
		return say("moved", strconv.Itoa(r.N))
	}
	return say("ok")
}

// farWrote: tells the history what the far end has written, of a stream with a handle.
func (p *Player) farWrote(o order, handle, taken int) {
	switch {
	case handle == 0:
	case o.far == api.DoWrite:
		p.history.Wrote(-handle, o.data[:taken])
	case o.far == api.DoClose:
		p.history.Closed(-handle)
	}
}
