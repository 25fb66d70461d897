// Package specimens makes frames and their bytes for the layers' tests, and writes over bytes that must not matter any more; no layer uses it.
package specimens

import (
	"bytes"
	"math"
	"slices"

	"culvert/api"
	"culvert/draws"
	"culvert/frame"
)

// Data: a Data frame with this payload.
func Data(flags uint16, stream uint32, payload string) api.Frame {
	f := Bare(api.TypeData, flags, stream, uint32(len(payload)))
	f.Data = []byte(payload)
	return f
}

// Bare: a frame that is its header alone.
func Bare(kind uint8, flags uint16, stream, length uint32) api.Frame {
	return api.Frame{Head: api.Header{Type: kind, Flags: flags, Stream: stream, Length: length}}
}

// Bytes: the frames' bytes, one behind the other, whether their payload is what their header says or not.
func Bytes(frames ...api.Frame) []byte {
	var all []byte
	for _, f := range frames {
		all = append(all, frame.Encode(f.Head)...)
		all = append(all, f.Data...)
	}
	return all
}

// Same: are they the same frames in the same order?
func Same(a, b []api.Frame) bool {
	return slices.EqualFunc(a, b, func(x, y api.Frame) bool {
		return x.Head == y.Head && bytes.Equal(x.Data, y.Data)
	})
}

// Drawn: one that may be, where a Data frame has at most this payload; most is above 0.
func Drawn(d *draws.Draws, most int) api.Frame {
	flags := []uint16{0, api.FlagSYN, api.FlagACK, api.FlagFIN, api.FlagSYN | api.FlagFIN, api.FlagACK | api.FlagFIN}
	stream := []uint32{1, 2, 3, 255, 256, 65536, 1 << 31, math.MaxUint32}[d.Below(8)]
	number := []uint32{0, 1, 2, 12, 255, 65536, 1 << 31, math.MaxUint32}[d.Below(8)]
	switch d.Below(6) {
	case 0:
		return Bare(api.TypeWindow, flags[d.Below(6)], stream, number)
	case 1:
		return Bare([]uint8{api.TypeData, api.TypeWindow}[d.Below(2)], api.FlagRST, stream, 0)
	case 2:
		return Bare(api.TypePing, []uint16{api.FlagSYN, api.FlagACK}[d.Below(2)], 0, number)
	case 3:
		return Bare(api.TypeAway, 0, 0, uint32(d.Below(3)))
	}
	payload := make([]byte, d.Below(most+1))
	for i := range payload {
		payload[i] = byte(d.Below(256))
	}
	return Data(flags[d.Below(6)], stream, string(payload))
}

// Spoil writes over all of b, its spare room too.
func Spoil(b []byte) {
	b = b[:cap(b)]
	for i := range b {
		b[i] ^= 0xff
	}
}
