// Package le is layer 1: numbers as bytes, the lowest first, and sizes.
package le

import (
	"marquetry/api"
)

const (
	maxBytes     = 8
	maxBlockBits = 30
)

// Get answers the number of n bytes from at on, the lowest first; false, if they are not all there, or n is not from 1 to 8.
func Get(b []byte, at, n int) (uint64, bool) {
	// The end is held against len(b)-n, as at+n might wrap round.
	if !isWidth(n) || at < 0 || at > len(b)-n {
		return 0, false
	}
	v := uint64(0)
	for i := n - 1; i >= 0; i-- {
		v = v<<8 | uint64(b[at+i])
	}
	return v, true
}

// Put answers v as n bytes, the lowest first; false, if v is too large for them, or n is not from 1 to 8.
func Put(v uint64, n int) ([]byte, bool) {
	if !isWidth(n) {
		return nil, false
	}
	b := make([]byte, n)
	for i := 0; i < n; i++ {
		b[i] = byte(v)
		v >>= 8
	}
	if v != 0 {
		return nil, false
	}
	return b, true
}

// Product answers a times b; false, if one of them is below 0, or the product is above most.
func Product(a, b, most int) (int, bool) {
	if a < 0 || b < 0 || most < 0 {
		return 0, false
	}
	// Divided ahead of multiplying, as a*b might wrap round to a number within the bound.
	if a > 0 && b > most/a {
		return 0, false
	}
	return a * b, true
}

// Blocks answers n divided by two to bits, rounded up; 0, if n is not from 0 to api.MaxCanvas, or bits not from 0 to 30.
func Blocks(n, bits int) int {
	if n < 0 || n > api.MaxCanvas || bits < 0 || bits > maxBlockBits {
		return 0
	}
	return (n + 1<<bits - 1) >> bits
}

func isWidth(n int) bool {
	return n >= 1 && n <= maxBytes
}
