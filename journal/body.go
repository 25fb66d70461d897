package journal

import (
	"culvert/api"
	"culvert/num"
)

// kind is the first byte of a body: the number that the call's Kind has.
type kind byte

const (
	kindNew kind = iota + 1
	kindConnect
	kindCut
	kindOpen
	kindWrite
	kindRead
	kindClose
	kindReset
	kindFar
	kindNear
	kindRounds
)

// fields is what goes over a body's fields, one behind the other. Each method is handed what the call has there, and answers what stands there.
type fields interface {
	kind(k kind) kind
	number(n int) int
	id(v uint32) uint32
	data(b []byte) []byte
}

// goOver: the fields that a call of this kind has, in their order; the bare form of the call that they are. That one order is the writers' and the reader's, so that they can't come apart.
func goOver(f fields, op api.PoolOp) api.PoolOp {
	k := f.kind(kind(op.Kind))
	bare := api.PoolOp{Kind: api.PoolKind(k)}
	switch k {
	case kindNew:
		bare.N = f.number(op.N)
		bare.H = f.number(op.H)
		bare.Cfg = goOverConfig(f, op.Cfg)
	case kindConnect, kindCut:
		bare.K = f.number(op.K)
	case kindOpen: // has none
	case kindWrite:
		bare.H = f.number(op.H)
		bare.Data = f.data(op.Data)
	case kindRead:
		bare.H = f.number(op.H)
		bare.N = f.number(op.N)
	case kindClose, kindReset:
		bare.H = f.number(op.H)
	case kindFar, kindNear:
		bare.K = f.number(op.K)
		bare.Link = goOverLink(f, op.Link)
	case kindRounds:
		bare.N = f.number(op.N)
	default:
		giveUp()
	}
	return bare
}

func goOverConfig(f fields, cfg api.Config) (bare api.Config) {
	bare.Window = f.number(cfg.Window)
	bare.Stage = f.number(cfg.Stage)
	bare.Frame = f.number(cfg.Frame)
	bare.Streams = f.number(cfg.Streams)
	bare.Backlog = f.number(cfg.Backlog)
	bare.Pings = f.number(cfg.Pings)
	bare.Out = f.number(cfg.Out)
	bare.Skip = f.number(cfg.Skip)
	return bare
}

// goOverLink: all but End, which the pool doesn't look at.
func goOverLink(f fields, op api.LinkOp) (bare api.LinkOp) {
	bare.Kind = api.LinkKind(f.number(int(op.Kind)))
	bare.ID = f.id(op.ID)
	bare.N = f.number(op.N)
	bare.Data = f.data(op.Data)
	return bare
}

// sizer counts the bytes that a body would have.
type sizer struct{ size int }

func (s *sizer) kind(k kind) kind {
	s.size++
	return k
}

func (s *sizer) number(n int) int {
	s.size += 2 * numberSize
	return n
}

func (s *sizer) id(v uint32) uint32 {
	s.size += numberSize
	return v
}

func (s *sizer) data(b []byte) []byte {
	s.size += numberSize + len(b)
	return b
}

// writer lays a body's bytes behind those that are there.
type writer struct{ out []byte }

func (w *writer) kind(k kind) kind {
	w.out = append(w.out, byte(k))
	return k
}

func (w *writer) number(n int) int {
	w.id(uint32(uint64(n) >> 32))
	w.id(uint32(n))
	return n
}

func (w *writer) id(v uint32) uint32 {
	w.out = append(w.out, num.Bytes32(v)...)
	return v
}

func (w *writer) data(b []byte) []byte {
	w.id(uint32(len(b)))
	w.out = append(w.out, b...)
	return b
}

// reader takes the fields out of a body, whatever the call has that its methods are handed. It gives up at a field that isn't all there.
type reader struct{ left []byte }

// unreadable is what a reader gives up with.
type unreadable struct{}

func giveUp() { panic(unreadable{}) }

// read: the call whose body this is.
func read(body []byte) (op api.PoolOp, err error) {
	defer func() {
		switch why := recover().(type) {
		case nil:
		case unreadable:
			op, err = api.PoolOp{}, api.ErrArgument
		default:
			panic(why) // no reader gave up: an answer would hide the fault
		}
	}()
	r := reader{left: body}
	op = goOver(&r, op)
	if len(r.left) > 0 {
		giveUp()
	}
	return op, nil
}

// take: the next n bytes of the body, which it shares.
func (r *reader) take(n int) []byte {
	if n > len(r.left) {
		giveUp()
	}
	taken := r.left[:n]
	r.left = r.left[n:]
	return taken
}

func (r *reader) kind(kind) kind { return kind(r.take(1)[0]) }

func (r *reader) number(int) int {
	high, low := r.id(0), r.id(0)
	return int(uint64(high)<<32 | uint64(low))
}

func (r *reader) id(uint32) uint32 {
	v, _ := num.Get32(r.take(numberSize))
	return v
}

func (r *reader) data([]byte) []byte {
	return append([]byte(nil), r.take(int(r.id(0)))...)
}
