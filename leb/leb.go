// Package leb encodes numbers as bytes, each in exactly one way.
package leb

import "pursuivant/api"

const (
	groupBits = 7
	more      = 1 << groupBits // marks every byte except the last one
	maxSize   = 10             // groups of seven that 64 bits need
	topGroup  = 1              // 64 bits leave a single one for the tenth group
)

// Put returns b followed by the encoding of n.
func Put(b []byte, n uint64) []byte {
	// Appending to b itself could write into the caller's spare capacity.
	out := make([]byte, 0, len(b)+Size(n))
	out = append(out, b...)
	for n >= more {
		out = append(out, byte(n)|more)
		n >>= groupBits
	}
	return append(out, byte(n))
}

// Size returns the length of the encoding of n.
func Size(n uint64) int {
	size := 1
	for n >= more {
		size++
		n >>= groupBits
	}
	return size
}

// Take decodes the number at an offset and returns it and the offset after it.
func Take(b []byte, at int) (n uint64, next int, e api.Errno) {
	if at < 0 || at > len(b) {
		return 0, 0, api.ErrArg
	}
	rest := b[at:]
	size := span(rest)
	if size == 0 && len(rest) < maxSize {
		return 0, 0, api.ErrShort
	}
	if size == 0 || !unique(rest[:size]) {
		return 0, 0, api.ErrForm
	}
	return value(rest[:size]), at + size, api.OK
}

// span counts the bytes up to the first one that ends a number, or returns 0
// if none of the bytes that a number may have ends it.
func span(b []byte) int {
	for i, c := range b[:min(len(b), maxSize)] {
		if c < more {
			return i + 1
		}
	}
	return 0
}

// unique tells whether groups that end properly are the encoding of a number:
// a last group of zero would be a second way to write a shorter encoding, and
// a tenth group above the greatest one would not fit into 64 bits.
func unique(b []byte) bool {
	last := b[len(b)-1]
	if len(b) == maxSize && last > topGroup {
		return false
	}
	return last != 0 || len(b) == 1
}

// value joins the groups of an encoding, the lowest first.
func value(b []byte) uint64 {
	n := uint64(0)
	shift := uint(0)
	for _, c := range b {
		n |= uint64(c&(more-1)) << shift
		shift += groupBits
	}
	return n
}
