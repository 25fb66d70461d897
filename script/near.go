package script

import (
	"errors"
	"strconv"

	"culvert/api"
	"culvert/pool"
	"culvert/trace"
)

// obey: what the order answers.
func (p *Player) obey(o order) string {
	if o.far != 0 {
		return p.far(o)
	}
	switch o.name {
	case "new":
		p.begin(o.n)
	case "connect":
		p.connect(o.n[0])
	case "cut":
		must(p.pool.Cut(o.n[0]))
	case "open":
		return p.open()
	case "write":
		return p.write(o.n[0], o.data)
	case "read":
		b, err := p.pool.Read(o.n[0], o.n[1])
		return p.gave(-o.n[0], b, err)
	case "close":
		must(p.pool.Close(o.n[0]))
		p.history.Closed(o.n[0])
	case "reset":
		must(p.pool.Reset(o.n[0]))
	case "rounds":
		must(p.pool.Rounds(o.n[0]))
	case "where":
		return p.where(o.n[0])
	case "conn":
		return p.conn(o.n[0])
	case "streams":
		return p.streams(o.n[0], o.n[1])
	case "history":
		return p.history.Text()
	}
	return say("ok")
}

// begin: another pool, and a history of its own.
func (p *Player) begin(n [10]int) {
	if p.history == nil {
		giveUp(api.ErrNil)
	}
	made, err := pool.New(n[0], n[1], api.Config{
		Window: n[2], Stage: n[3], Frame: n[4], Streams: n[5],
		Backlog: n[6], Pings: n[7], Out: n[8], Skip: n[9],
	})
	must(err)
	*p = Player{made, trace.New(), map[int]map[uint32]int{}}
}

func (p *Player) connect(k int) {
	must(p.pool.Connect(k))
	p.opened[k] = map[uint32]int{}
}

func (p *Player) open() string {
	handle, err := p.pool.Open()
	must(err)
	at, _ := p.pool.Handle(handle)
	p.opened[at.Conn][at.ID] = handle
	return say("handle", strconv.Itoa(handle))
}

func (p *Player) write(handle int, b []byte) string {
	n, err := p.pool.Write(handle, b)
	must(err)
	p.history.Wrote(handle, b[:n])
	return say("took", strconv.Itoa(n))
}

// gave: what a read has told, with the history's verdict on it; key 0 is that of a stream without a handle, of which the history knows nothing.
func (p *Player) gave(key int, b []byte, err error) string {
	behind := ""
	if key != 0 && p.refuses(key, b, err) {
		behind = say("history")
	}
	if err != nil {
		panic(failure{err, behind})
	}
	return say("gave", Told(b)) + behind
}

// refuses: can the read not have told this, by the history?
func (p *Player) refuses(key int, b []byte, err error) bool {
	switch {
	case err == nil:
		return p.history.Gave(key, b) != nil
	case errors.Is(err, api.ErrEOF):
		return p.history.Ended(key) != nil
	}
	return false
}

func (p *Player) where(handle int) string {
	p.needsPool()
	at, ok := p.pool.Handle(handle)
	if !ok {
		giveUp(api.ErrHandle)
	}
	return say("at", strconv.Itoa(at.Conn), strconv.Itoa(at.Life), tell(at.ID))
}

func (p *Player) conn(k int) string {
	p.needsPool()
	view, ok := p.pool.Conn(k)
	if !ok {
		giveUp(api.ErrRange)
	}
	words := []string{"life", strconv.Itoa(view.Life)}
	if view.Live {
		words = append(words, "live")
	}
	if view.Draining {
		words = append(words, "draining")
	}
	words = append(words, "open", strconv.Itoa(view.Open), "left", strconv.Itoa(view.Left))
	return say(words...)
}

func (p *Player) streams(k, end int) string {
	p.needsPool()
	l := p.pool.Link(k)
	if l == nil {
		giveUp(api.ErrNoConn)
	}
	s := l.End(end)
	if s == nil {
		giveUp(api.ErrRange)
	}
	return list("streams", s.Streams())
}

// needsPool: for calls of the pool that have no error of their own.
func (p *Player) needsPool() {
	if p.pool == nil {
		giveUp(api.ErrNil)
	}
}
