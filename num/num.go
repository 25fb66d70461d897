// Package num is layer 1: numbers of 16 and 32 bits as bytes, and sums that are checked: see shared/doc/01-num.md.
package num

import (
	"math"

	"culvert/api"
)

// Bytes16: the two bytes of v, the high one first.
func Bytes16(v uint16) []byte {
	digits := [2]byte{byte(v >> 8), byte(v)}
	b := make([]byte, len(digits))
	copy(b, digits[:])
	return b
}

// Bytes32: the four bytes of v, the highest first.
func Bytes32(v uint32) []byte {
	digits := [4]byte{byte(v >> 24), byte(v >> 16), byte(v >> 8), byte(v)}
	b := make([]byte, len(digits))
	copy(b, digits[:])
	return b
}

// Get16: the number that the first two bytes write.
func Get16(b []byte) (uint16, error) {
	if len(b) < 2 {
		return 0, api.ErrShort
	}
	return uint16(b[0])<<8 | uint16(b[1]), nil
}

// Get32: the number that the first four bytes write.
func Get32(b []byte) (uint32, error) {
	if len(b) < 4 {
		return 0, api.ErrShort
	}
	return uint32(b[0])<<24 | uint32(b[1])<<16 | uint32(b[2])<<8 | uint32(b[3]), nil
}

// Add: a + b, if it is a number of 32 bits.
func Add(a, b uint32) (uint32, error) {
	if b > math.MaxUint32-a {
		return 0, api.ErrOverflow
	}
	return a + b, nil
}

// Sub: a - b, if it isn't below 0.
func Sub(a, b uint32) (uint32, error) {
	if b > a {
		return 0, api.ErrUnderflow
	}
	return a - b, nil
}

// Narrow: n as a number of 32 bits, if it is one.
func Narrow(n int) (uint32, error) {
	if n < 0 || n > math.MaxUint32 {
		return 0, api.ErrRange
	}
	return uint32(n), nil
}
