// Package varint is layer 1: numbers in as few bytes as there can be.
package varint

import (
	"iter"

	"tephra/api"
)

const (
	groupBits = 7
	goesOn    = 1 << groupBits
	maxBytes  = (64 + groupBits - 1) / groupBits
	// The last of the most bytes that there can be has room for one bit of 64.
	maxTop = 1<<(64-groupBits*(maxBytes-1)) - 1
)

// Put lays a number behind others.
func Put(b []byte, n uint64) []byte {
	// What is handed in may have room behind it that is somebody else's: so a copy.
	out := make([]byte, len(b), len(b)+maxBytes)
	copy(out, b)
	for c := range laid(n) {
		out = append(out, c)
	}
	return out
}

// Get is the number at a place.
func Get(b []byte, at int) (n uint64, next int, e api.Errno) {
	if at < 0 || at > len(b) {
		return 0, 0, api.ErrArg
	}
	for i, c := range b[at:] {
		if !mayStand(i, c) {
			return 0, 0, api.ErrForm
		}
		n |= uint64(c%goesOn) << (groupBits * i)
		if c < goesOn {
			return n, at + i + 1, api.OK
		}
	}
	return 0, 0, api.ErrShort
}

// Size is how many bytes a number has.
func Size(n uint64) int {
	size := 0
	for range laid(n) {
		size++
	}
	return size
}

// laid hands on a number's bytes, a group of seven bits each.
func laid(n uint64) iter.Seq[byte] {
	return func(yield func(byte) bool) {
		rest := n
		for ; rest >= goesOn; rest >>= groupBits {
			if !yield(byte(rest) | goesOn) {
				return
			}
		}
		yield(byte(rest))
	}
}

// mayStand tells whether a byte may be the one at a place of a number's bytes.
func mayStand(i int, c byte) bool {
	if i == maxBytes-1 && c > maxTop {
		return false
	}
	// A last group of 0 could be left out, and a number's bytes would not be the only ones.
	return i == 0 || c != 0
}
