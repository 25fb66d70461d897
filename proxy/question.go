package proxy

import (
	"bytes"

	"culvert/api"
	"culvert/msg"
)

// The first byte of an answer.
const (
	isFound   = 0 // the value stands behind it
	isRefused = 1 // nothing does
)

// question is one whose answer isn't in its asker's outbox yet.
type question struct {
	asker *asker
	key   string
	step  step
}

// step is how far a question has come: it is unseen, waits, found or refused.
type step interface {
	held() int // how many bytes of a value
}

type (
	unseen  struct{}               // it wasn't looked at
	waits   struct{}               // its key is being asked
	found   struct{ value string } // a text, so that nobody can write into what the cache and others have too
	refused struct{}
)

func (unseen) held() int  { return 0 }
func (waits) held() int   { return 0 }
func (f found) held() int { return len(f.value) }
func (refused) held() int { return 0 }

func newQuestion(a *asker, key []byte) *question {
	return &question{asker: a, key: string(key), step: unseen{}}
}

// answer: the message that answers it; false, if it has no answer yet.
func (q *question) answer() ([]byte, bool) {
	switch s := q.step.(type) {
	case found:
		return message(append([]byte{isFound}, s.value...)), true
	case refused:
		return message([]byte{isRefused}), true
	}
	return nil, false
}

func (q *question) held() int { return len(q.key) + q.step.held() }

func newReader(most int) *msg.Reader {
	r, _ := msg.New(most) // never fails: both sides' mosts are below the greatest
	return r
}

// message: the bytes of a message, which is of a key or of an answer and so never too long.
func message(m []byte) []byte {
	b, _ := msg.Encode(m, api.MaxMessage)
	return b
}

// behind: what stands behind the first n bytes, in memory of its own, lest the others are kept with it.
func behind(b []byte, n int) []byte {
	return bytes.Clone(b[n:])
}
