package journal

import (
	"culvert/api"
	"culvert/num"
)

// numberSize is how many bytes the length has, and the sum.
const numberSize = 4

// The sum's first value, and what it is multiplied by.
const (
	sumBegin  = 2166136261
	sumFactor = 16777619
)

// Encode: the record of a call.
func Encode(op api.PoolOp) ([]byte, error) {
	if op.Kind < api.PoolNew || op.Kind > api.PoolRounds {
		return nil, api.ErrRange
	}
	var body sizer // ahead of the writer, so that no list is copied that is too long for a record
	goOver(&body, op)
	if body.size > api.MaxMessage {
		return nil, api.ErrLength
	}
	w := writer{out: make([]byte, 0, numberSize+body.size+numberSize)}
	w.id(uint32(body.size))
	goOver(&w, op)
	w.id(sum(w.out))
	return w.out, nil
}

// Decode: the calls whose records stand in bytes, one behind the other, and how many bytes they take; what is behind a torn or turned record is not read.
func Decode(b []byte) ([]api.PoolOp, int, error) {
	var ops []api.PoolOp
	good := 0
	for good < len(b) {
		op, size, err := first(b[good:])
		if err != nil {
			return ops, good, err
		}
		ops = append(ops, op)
		good += size
	}
	return ops, good, nil
}

// first: the call whose record the bytes begin with, and how many bytes the record has.
func first(b []byte) (api.PoolOp, int, error) {
	length, err := num.Get32(b)
	if err != nil {
		return api.PoolOp{}, 0, err
	}
	if length == 0 || length > api.MaxMessage {
		return api.PoolOp{}, 0, api.ErrLength
	}
	end := numberSize + int(length)
	if len(b) < end+numberSize {
		return api.PoolOp{}, 0, api.ErrShort
	}
	if told, _ := num.Get32(b[end:]); told != sum(b[:end]) {
		return api.PoolOp{}, 0, api.ErrHistory
	}
	op, err := read(b[numberSize:end])
	if err != nil {
		return api.PoolOp{}, 0, err
	}
	return op, end + numberSize, nil
}

// sum: another one for each list that has one byte changed.
func sum(b []byte) uint32 {
	s := uint32(sumBegin)
	for _, c := range b {
		s = (s ^ uint32(c)) * sumFactor
	}
	return s
}
