// Package draws gives numbers that look spread and are the same in each run, for the layers' tests; no layer uses it.
package draws

// Draws is a row of numbers; it begins with any value.
type Draws uint32

// Below: the row's next number, from 0 to n - 1; n is above 0, and at most 2^32.
func (d *Draws) Below(n int) int {
	*d = *d*1664525 + 1013904223
	return int(uint64(*d) * uint64(n) >> 32) // by the highest bits: the lower ones of such a row come round too soon
}
