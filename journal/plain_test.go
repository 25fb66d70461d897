package journal_test

import (
	"bytes"
	"encoding/binary"
	"errors"
	"fmt"
	"hash/fnv"
	"slices"
	"testing"

	"culvert/api"
	"culvert/journal"
	"culvert/link"
	"culvert/pool"
	"culvert/sentinels"
	"culvert/specimens"
)

// named: the fields that the chapter's table names for the call's Kind, in their order, as pointers into the call; nil, if there is no such Kind.
func named(op *api.PoolOp) []any {
	c, l := &op.Cfg, &op.Link
	switch op.Kind {
	case 1:
		return []any{&op.N, &op.H, &c.Window, &c.Stage, &c.Frame, &c.Streams, &c.Backlog, &c.Pings, &c.Out, &c.Skip}
	case 2, 3:
		return []any{&op.K}
	case 4:
		return []any{}
	case 5:
		return []any{&op.H, &op.Data}
	case 6:
		return []any{&op.H, &op.N}
	case 7, 8:
		return []any{&op.H}
	case 9, 10:
		return []any{&op.K, &l.Kind, &l.ID, &l.N, &l.Data}
	case 11:
		return []any{&op.N}
	}
	return nil
}

// bare: the bare form of a call.
func bare(op api.PoolOp) api.PoolOp {
	return with(api.PoolOp{Kind: op.Kind}, op)
}

// with: the first call with the named fields of the other one, which is of the same Kind.
func with(op, other api.PoolOp) api.PoolOp {
	from := named(&other)
	for i, to := range named(&op) {
		switch to := to.(type) {
		case *int:
			*to = *from[i].(*int)
		case *api.LinkKind:
			*to = *from[i].(*api.LinkKind)
		case *uint32:
			*to = *from[i].(*uint32)
		case *[]byte:
			*to = bytes.Clone(*from[i].(*[]byte))
		}
	}
	return op
}

// set: a field as this number, or as a list that hangs on it.
func set(field any, n int) {
	switch field := field.(type) {
	case *int:
		*field = n
	case *api.LinkKind:
		*field = api.LinkKind(n)
	case *uint32:
		*field = uint32(n)
	case *[]byte:
		*field = bytes.Repeat([]byte{byte(n), 7}, n&0x1ff)
	}
}

// body: what the chapter says of a call's body.
func body(op api.PoolOp) []byte {
	b := []byte{byte(op.Kind)}
	for _, field := range named(&op) {
		switch v := field.(type) {
		case *int:
			b = binary.BigEndian.AppendUint64(b, uint64(*v))
		case *api.LinkKind:
			b = binary.BigEndian.AppendUint64(b, uint64(*v))
		case *uint32:
			b = binary.BigEndian.AppendUint32(b, *v)
		case *[]byte:
			b = binary.BigEndian.AppendUint32(b, uint32(len(*v)))
			b = append(b, *v...)
		}
	}
	return b
}

// framed: length, body and sum.
func framed(body []byte) []byte {
	b := binary.BigEndian.AppendUint32(nil, uint32(len(body)))
	return summed(append(b, body...))
}

// summed: the bytes with their sum behind them.
func summed(b []byte) []byte {
	sum := fnv.New32a()
	sum.Write(b)
	return sum.Sum(bytes.Clone(b))
}

// plainEncode is what the chapter says of Encode, word for word.
func plainEncode(op api.PoolOp) ([]byte, error) {
	if named(&op) == nil {
		return nil, api.ErrRange
	}
	b := body(op)
	if len(b) > 1048576 {
		return nil, api.ErrLength
	}
	return framed(b), nil
}

// record: that of a call that has one.
func record(op api.PoolOp) []byte {
	b, err := plainEncode(op)
	if err != nil {
		panic(err)
	}
	return b
}

// records: those of all the calls, one behind the other.
func records(ops ...api.PoolOp) []byte {
	var all []byte
	for _, op := range ops {
		all = append(all, record(op)...)
	}
	return all
}

// plainDecode is what the chapter says of Decode, word for word.
func plainDecode(b []byte) (ops []api.PoolOp, n int, err error) {
	for {
		rest := b[n:]
		if len(rest) == 0 {
			return ops, n, nil
		}
		if len(rest) < 4 {
			return ops, n, api.ErrShort
		}
		length := int(binary.BigEndian.Uint32(rest))
		if length == 0 || length > 1048576 {
			return ops, n, api.ErrLength
		}
		if len(rest) < 4+length+4 {
			return ops, n, api.ErrShort
		}
		whole := rest[:4+length+4]
		if !bytes.Equal(framed(whole[4:4+length]), whole) {
			return ops, n, api.ErrHistory
		}
		op, may := plainCall(whole[4 : 4+length])
		if !may {
			return ops, n, api.ErrArgument
		}
		ops = append(ops, op)
		n += len(whole)
	}
}

// plainCall: the call whose body this is; false, if it is none's.
func plainCall(b []byte) (op api.PoolOp, may bool) {
	op.Kind = api.PoolKind(b[0])
	fields := named(&op)
	if fields == nil {
		return op, false
	}
	b = b[1:]
	for _, field := range fields {
		size := 8
		switch field.(type) {
		case *uint32, *[]byte:
			size = 4
		}
		if len(b) < size {
			return op, false
		}
		value := b[:size]
		b = b[size:]
		switch v := field.(type) {
		case *int:
			*v = int(binary.BigEndian.Uint64(value))
		case *api.LinkKind:
			*v = api.LinkKind(binary.BigEndian.Uint64(value))
		case *uint32:
			*v = binary.BigEndian.Uint32(value)
		case *[]byte:
			n := int(binary.BigEndian.Uint32(value))
			if len(b) < n {
				return op, false
			}
			*v = b[:n]
			b = b[n:]
		}
	}
	return op, len(b) == 0
}

// sameOp: a list that is empty may be nil or empty (R5).
func sameOp(a, b api.PoolOp) bool {
	if !bytes.Equal(a.Data, b.Data) || !bytes.Equal(a.Link.Data, b.Link.Data) {
		return false
	}
	x, y := a.Link, b.Link
	return a.Kind == b.Kind && a.K == b.K && a.H == b.H && a.N == b.N && a.Cfg == b.Cfg && x.Kind == y.Kind && x.End == y.End && x.ID == y.ID && x.N == y.N
}

func sameOps(a, b []api.PoolOp) bool { return slices.EqualFunc(a, b, sameOp) }

// decoded: what Decode answers, held against the chapter's words, and against P32.2: the records of the calls are the bytes that it says they have.
func decoded(t *testing.T, b []byte) ([]api.PoolOp, int, error) {
	t.Helper()
	lent := lend(b)
	ops, n, err := journal.Decode(lent)
	if !unchanged(lent, b) {
		t.Fatalf("Decode(% x) has changed what it was handed", short(b))
	}
	specimens.Spoil(lent)
	want, k, why := plainDecode(b)
	if !sameOps(ops, want) || n != k || !sentinels.Just(err, why) {
		t.Fatalf("Decode(% x): %v, %d, %v, want %v, %d, %v", short(b), ops, n, err, want, k, why)
	}
	if !bytes.Equal(records(ops...), b[:n]) {
		t.Fatalf("P32.2: the records of %v are not % x", ops, short(b[:n]))
	}
	return ops, n, err
}

// short: so much of the bytes as can be told.
func short(b []byte) []byte { return b[:min(len(b), 200)] }

// plain is what the chapter says of a journal, word for word, over a pool of its own.
type plain struct {
	pool    *pool.Pool
	calls   []api.PoolOp // that are kept, in their bare form
	handles int          // no handle is greater
}

func (w *plain) Do(op api.PoolOp) (r api.LinkResult, err error) {
	if _, err := plainEncode(op); err != nil {
		return r, err
	}
	if op.Kind == api.PoolNew {
		if w.pool != nil {
			return r, api.ErrTwice
		}
		p, err := pool.New(op.N, op.H, op.Cfg)
		if err != nil {
			return r, err
		}
		w.pool = p
		w.calls = append(w.calls, bare(op))
		return r, nil
	}
	if w.pool == nil {
		return r, api.ErrMissing
	}
	w.calls = append(w.calls, bare(op))
	r, err = w.call(bare(op))
	if op.Kind == api.PoolOpen {
		w.handles = max(w.handles, r.N)
	}
	return r, err
}

func (w *plain) call(op api.PoolOp) (api.LinkResult, error) {
	switch op.Kind {
	case api.PoolConnect:
		return api.LinkResult{}, w.pool.Connect(op.K)
	case api.PoolCut:
		return api.LinkResult{}, w.pool.Cut(op.K)
	case api.PoolOpen:
		handle, err := w.pool.Open()
		return api.LinkResult{N: handle}, err
	case api.PoolWrite:
		n, err := w.pool.Write(op.H, op.Data)
		return api.LinkResult{N: n}, err
	case api.PoolRead:
		b, err := w.pool.Read(op.H, op.N)
		return api.LinkResult{Data: b}, err
	case api.PoolClose:
		return api.LinkResult{}, w.pool.Close(op.H)
	case api.PoolReset:
		return api.LinkResult{}, w.pool.Reset(op.H)
	case api.PoolFar:
		return w.pool.Far(op.K, op.Link)
	case api.PoolNear:
		return w.pool.Near(op.K, op.Link)
	}
	return api.LinkResult{}, w.pool.Rounds(op.N)
}

func (w *plain) Bytes() []byte { return records(w.calls...) }

// plainReplay is what the chapter says of Replay, word for word.
func plainReplay(b []byte) (*plain, int, error) {
	w := &plain{}
	ops, _, torn := plainDecode(b)
	for _, op := range ops {
		before := len(w.calls)
		if _, err := w.Do(op); len(w.calls) == before {
			return w, len(w.Bytes()), err
		}
	}
	return w, len(w.Bytes()), torn
}

// both is a journal, and others that its bytes have made, beside what the chapter says of it: each call must answer as that does.
type both struct {
	all []*journal.Journal
	w   *plain // the words
}

// begun: a new journal that was handed these calls.
func begun(t *testing.T, ops ...api.PoolOp) *both {
	t.Helper()
	j := journal.New()
	if j == nil {
		t.Fatal("New: nil")
	}
	b := &both{[]*journal.Journal{j}, &plain{}}
	b.well(t, ops...)
	return b
}

// fails: how a call has ended, and must have ended.
func fails(t *testing.T, call any, err, want error) {
	t.Helper()
	var v *api.Violation
	if errors.As(want, &v) {
		if !sentinels.Breach(err, v.Stream, v.Why) {
			t.Fatalf("%+v: %v, want a violation on %d, %v", call, err, v.Stream, v.Why)
		}
		return
	}
	if !sentinels.Just(err, want) {
		t.Fatalf("%+v: %v, want %v", call, err, want)
	}
}

// lend: bytes with spare room behind them.
func lend(b []byte) []byte { return append(make([]byte, 0, len(b)+3), b...) }

// unchanged: is what was lent as it was, its spare room too?
func unchanged(lent, b []byte) bool {
	return bytes.Equal(lent, b) && bytes.Equal(lent[len(lent):cap(lent)], make([]byte, cap(lent)-len(lent)))
}

// done: one call of a journal. Its bytes are lent with spare room and written over afterwards.
func done(t *testing.T, j *journal.Journal, op api.PoolOp) (api.LinkResult, error) {
	t.Helper()
	lent := op
	lent.Data, lent.Link.Data = lend(op.Data), lend(op.Link.Data)
	r, err := j.Do(lent)
	if !unchanged(lent.Data, op.Data) || !unchanged(lent.Link.Data, op.Link.Data) {
		t.Fatalf("%+v has changed what it was handed", op)
	}
	specimens.Spoil(lent.Data)
	specimens.Spoil(lent.Link.Data)
	return r, err
}

// do: one call, of all; what it answers is written over.
func (b *both) do(t *testing.T, op api.PoolOp) (api.LinkResult, error) {
	t.Helper()
	want, why := b.w.Do(op)
	for _, j := range b.all {
		got, err := done(t, j, op)
		fails(t, op, err, why)
		same(t, op, got, want)
		specimens.Spoil(got.Data)
		for i := range got.IDs[:cap(got.IDs)] {
			got.IDs[:cap(got.IDs)][i]++
		}
	}
	return want, why
}

func same(t *testing.T, op api.PoolOp, got, want api.LinkResult) {
	t.Helper()
	if got.ID != want.ID || got.N != want.N || !bytes.Equal(got.Data, want.Data) || !slices.Equal(got.IDs, want.IDs) {
		t.Fatalf("%+v: %+v, want %+v", op, got, want)
	}
}

// seenLink: all that a link lets be seen, as a text.
func seenLink(l *link.Link) string {
	if l == nil {
		return "none"
	}
	var all []any
	for e := range 2 {
		s := l.End(e)
		here, there := s.Away()
		all = append(all, l.UnderWay(e), s.Err(), here, there, s.Left(), s.Streams(), s.Waiting(), s.Tickets(), s.Pinged(), s.Pending(), s.Held())
		for _, id := range slices.Concat(s.Streams(), s.Waiting()) {
			v, _ := s.View(id)
			all = append(all, v)
		}
	}
	return fmt.Sprint(all...)
}

// seen: all that a pool lets be seen, as a text: Conn of all places, the handles up to this one, and both ends of all connections.
func seen(p *pool.Pool, handles int) string {
	if p == nil {
		return "no pool"
	}
	var all []any
	for k := -1; ; k++ {
		v, ok := p.Conn(k)
		if k >= 0 && !ok {
			break
		}
		all = append(all, v, ok, seenLink(p.Link(k)), "\n")
	}
	for h := -1; h <= handles+2; h++ {
		if at, ok := p.Handle(h); ok {
			all = append(all, h, at)
		}
	}
	return fmt.Sprint(all...)
}

// tells: all that can be looked at, as the chapter says; looking changes nothing, or the next call would tell.
func (b *both) tells(t *testing.T) {
	t.Helper()
	for _, j := range b.all {
		got := j.Bytes()
		if want := b.w.Bytes(); !bytes.Equal(got, want) {
			t.Fatalf("Bytes: % x, want % x", short(got), short(want))
		}
		specimens.Spoil(got)
		if got, want := seen(j.Pool(), b.w.handles), seen(b.w.pool, b.w.handles); got != want {
			t.Fatalf("Pool:\n%s, want\n%s", got, want)
		}
	}
}

// well: calls that must not fail; what the last one answers.
func (b *both) well(t *testing.T, ops ...api.PoolOp) (r api.LinkResult) {
	t.Helper()
	for _, op := range ops {
		var err error
		if r, err = b.do(t, op); err != nil {
			t.Fatalf("%+v: %v", op, err)
		}
		b.tells(t)
	}
	return r
}

// answers: a call that must not fail, and must answer this.
func (b *both) answers(t *testing.T, op api.PoolOp, want api.LinkResult) {
	t.Helper()
	same(t, op, b.well(t, op), want)
}

// refuses: a call that must fail with this, and of which nothing is kept.
func (b *both) refuses(t *testing.T, op api.PoolOp, want error) {
	t.Helper()
	b.failsWith(t, op, want, nil)
}

// failsKept: a call that must fail with this, and whose record is kept.
func (b *both) failsKept(t *testing.T, op api.PoolOp, want error) {
	t.Helper()
	b.failsWith(t, op, want, record(op))
}

func (b *both) failsWith(t *testing.T, op api.PoolOp, want error, kept []byte) {
	t.Helper()
	before := b.all[0].Bytes()
	r, err := b.do(t, op)
	fails(t, op, err, want)
	same(t, op, r, api.LinkResult{})
	if after := b.all[0].Bytes(); !bytes.Equal(after, append(before, kept...)) {
		t.Fatalf("%+v: % x is kept behind % x", op, after, before)
	}
	b.tells(t)
}

// again: P32.5: the journal that its bytes make is as it is, and goes on beside it.
func (b *both) again(t *testing.T) {
	t.Helper()
	all := b.all[0].Bytes()
	lent := lend(all)
	c, n, err := journal.Replay(lent)
	if c == nil || n != len(all) || err != nil {
		t.Fatalf("P32.5: Replay: %v, %d of %d, %v", c, n, len(all), err)
	}
	if !unchanged(lent, all) {
		t.Fatal("Replay has changed what it was handed")
	}
	specimens.Spoil(lent)
	b.all = append(b.all, c)
	b.tells(t)
}

// replayed: what Replay answers, held against the chapter's words and against P32.6.
func replayed(t *testing.T, b []byte) (*both, int, error) {
	t.Helper()
	lent := lend(b)
	j, n, err := journal.Replay(lent)
	if !unchanged(lent, b) {
		t.Fatal("Replay has changed what it was handed")
	}
	specimens.Spoil(lent)
	w, k, why := plainReplay(b)
	if j == nil || n != k || !sentinels.Just(err, why) {
		t.Fatalf("Replay(% x): %v, %d, %v, want %d, %v", short(b), j, n, err, k, why)
	}
	if !bytes.Equal(j.Bytes(), b[:n]) {
		t.Fatalf("P32.6: % x is kept, and not % x", short(j.Bytes()), short(b[:n]))
	}
	x := &both{[]*journal.Journal{j}, w}
	x.tells(t)
	return x, n, err
}

// The calls.

func news(conns, per int, cfg api.Config) api.PoolOp {
	return api.PoolOp{Kind: api.PoolNew, N: conns, H: per, Cfg: cfg}
}

func connects(k int) api.PoolOp { return api.PoolOp{Kind: api.PoolConnect, K: k} }

func cuts(k int) api.PoolOp { return api.PoolOp{Kind: api.PoolCut, K: k} }

func opens() api.PoolOp { return api.PoolOp{Kind: api.PoolOpen} }

func writes(h int, p string) api.PoolOp {
	return api.PoolOp{Kind: api.PoolWrite, H: h, Data: []byte(p)}
}

func reads(h, n int) api.PoolOp { return api.PoolOp{Kind: api.PoolRead, H: h, N: n} }

func closes(h int) api.PoolOp { return api.PoolOp{Kind: api.PoolClose, H: h} }

func resets(h int) api.PoolOp { return api.PoolOp{Kind: api.PoolReset, H: h} }

func rounds(n int) api.PoolOp { return api.PoolOp{Kind: api.PoolRounds, N: n} }

func far(k int, op api.LinkOp) api.PoolOp { return api.PoolOp{Kind: api.PoolFar, K: k, Link: op} }

func near(k int, op api.LinkOp) api.PoolOp { return api.PoolOp{Kind: api.PoolNear, K: k, Link: op} }

func only(kind api.LinkKind) api.LinkOp { return api.LinkOp{Kind: kind} }

func many(kind api.LinkKind, n int) api.LinkOp { return api.LinkOp{Kind: kind, N: n} }

func farAccepts(k int) api.PoolOp { return far(k, only(api.DoAccept)) }

func farWrites(k int, id uint32, p string) api.PoolOp {
	return far(k, api.LinkOp{Kind: api.DoWrite, ID: id, Data: []byte(p)})
}

func farReads(k int, id uint32, n int) api.PoolOp {
	return far(k, api.LinkOp{Kind: api.DoRead, ID: id, N: n})
}

func farCloses(k int, id uint32) api.PoolOp {
	return far(k, api.LinkOp{Kind: api.DoClose, ID: id})
}

func farResets(k int, id uint32) api.PoolOp {
	return far(k, api.LinkOp{Kind: api.DoReset, ID: id})
}

func injects(k int, frames ...api.Frame) api.PoolOp {
	return far(k, api.LinkOp{Kind: api.DoInject, Data: specimens.Bytes(frames...)})
}

// small is the configuration of the chapter's examples.
func small() api.Config {
	return api.Config{Window: 4, Stage: 8, Frame: 3, Streams: 4, Backlog: 2, Pings: 1, Out: 64}
}
