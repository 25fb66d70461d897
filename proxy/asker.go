package proxy

import (
	"errors"
	"slices"

	"culvert/api"
	"culvert/msg"
	"culvert/session"
)

// asker is a front stream that asks, with its questions that weren't answered yet.
type asker struct {
	front  *session.Session
	id     uint32
	reader *msg.Reader
	list   []*question // in the order in which they came
	outbox []byte      // of an answer what the front has not taken yet
	ended  bool        // no more questions come
	gone   bool        // till it is let go, once all askers had their turn
}

func newAsker(front *session.Session, id uint32) *asker {
	return &asker{front: front, id: id, reader: newReader(api.MaxQuestion)}
}

// hear: questions that have come are put into the list, as long as that is short.
func (a *asker) hear() {
	for !a.gone && !a.ended && len(a.list) < api.MaxAsks {
		b, err := a.front.Read(a.id, piece)
		switch {
		case errors.Is(err, api.ErrEOF):
			a.end()
		case err != nil:
			a.gone = true
		case len(b) == 0:
			return
		default:
			a.feed(b)
		}
	}
}

func (a *asker) end() {
	a.ended = true
	if a.reader.Done() != nil {
		a.giveUp()
	}
}

// feed: the questions that are whole with these bytes; if one of them may not be, none counts.
func (a *asker) feed(b []byte) {
	messages, err := a.reader.Feed(b)
	if err != nil || slices.ContainsFunc(messages, isEmpty) {
		a.giveUp()
		return
	}
	for _, m := range messages {
		a.list = append(a.list, newQuestion(a, m))
	}
}

func isEmpty(m []byte) bool { return len(m) == 0 }

// giveUp: whoever doesn't keep to the form is told nothing any more.
func (a *asker) giveUp() {
	a.front.Reset(a.id)
	a.gone = true
}

// answer: one answer behind the other, as long as there is one and the front takes it; how many have left the list.
func (a *asker) answer() int {
	given := 0
	for {
		if len(a.outbox) == 0 && a.next() {
			given++
		}
		if len(a.outbox) == 0 {
			a.finish()
			return given
		}
		n, err := a.front.Write(a.id, a.outbox)
		if err != nil {
			a.gone = true
			return given
		}
		a.outbox = behind(a.outbox, n)
		if len(a.outbox) > 0 {
			return given
		}
	}
}

// next: the first question's answer goes into the outbox, if there is one.
func (a *asker) next() bool {
	if len(a.list) == 0 {
		return false
	}
	b, ok := a.list[0].answer()
	if !ok {
		return false
	}
	a.outbox = b
	a.list = slices.Delete(a.list, 0, 1)
	return true
}

// finish: an asker that was given everything, and asks no more, goes.
func (a *asker) finish() {
	if a.ended && len(a.list) == 0 {
		a.front.Close(a.id)
		a.gone = true
	}
}

func (a *asker) held() int {
	held := len(a.outbox) + a.reader.Held()
	for _, q := range a.list {
		held += q.held()
	}
	return held
}
