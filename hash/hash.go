// Package hash computes names of byte strings: hashes of 64 bits.
package hash

import (
	"math/bits"

	"forkledger/api"
)

const (
	startX uint64 = 0x243f6a8885a308d3
	startY uint64 = 0x13198a2e03707344
	factor uint64 = 0x9e3779b97f4a7c15
)

// Sum returns the hash of b.
func Sum(b []byte) api.Name {
	x, y := absorb(startX, startY, b)
	return finish(x, y, len(b))
}

// Tagged returns the Sum of the byte tag followed by b.
func Tagged(tag byte, b []byte) api.Name {
	// The tag shares its word with the beginning of b, so no copy of all of b is needed. A short b leaves the zero bytes that fill the word.
	first := api.Name{tag}
	n := copy(first[1:], b)
	x, y := absorb(startX, startY, first[:])
	x, y = absorb(x, y, b[n:])
	return finish(x, y, 1+len(b))
}

// Pair returns Tagged of tag and the bytes of x followed by those of y.
func Pair(tag byte, x, y api.Name) api.Name {
	var both [2 * api.NameLen]byte
	copy(both[:api.NameLen], x[:])
	copy(both[api.NameLen:], y[:])
	return Tagged(tag, both[:])
}

// Number returns the number whose bytes, highest first, are n.
func Number(n api.Name) uint64 {
	return uint64(n[0])<<56 | uint64(n[1])<<48 | uint64(n[2])<<40 | uint64(n[3])<<32 |
		uint64(n[4])<<24 | uint64(n[5])<<16 | uint64(n[6])<<8 | uint64(n[7])
}

// Of returns the name whose Number is v.
func Of(v uint64) api.Name {
	return api.Name{
		byte(v >> 56), byte(v >> 48), byte(v >> 40), byte(v >> 32),
		byte(v >> 24), byte(v >> 16), byte(v >> 8), byte(v),
	}
}

// Less reports whether a comes before b in the order of their numbers.
func Less(a, b api.Name) bool {
	// Lists that are searched and merged often compare a name with itself; that needs no numbers.
	if a == b {
		return false
	}
	return Number(a) < Number(b)
}

// absorb changes the state by the words of b; zero bytes fill the last word.
func absorb(x, y uint64, b []byte) (uint64, uint64) {
	for len(b) > 0 {
		var word api.Name
		n := copy(word[:], b)
		x, y = mix(x^Number(word), y)
		x, y = mix(x, y)
		b = b[n:]
	}
	return x, y
}

// finish returns the name for the state after all words. The length tells inputs apart that the filling zero bytes make alike.
func finish(x, y uint64, length int) api.Name {
	y ^= uint64(length)
	for range 4 {
		x, y = mix(x, y)
	}
	return Of(x ^ y)
}

// mix returns the state that follows (x, y).
func mix(x, y uint64) (uint64, uint64) {
	x += y
	y = bits.RotateLeft64(y, 13) ^ x
	x = bits.RotateLeft64(x, 32) * factor
	return x, y
}
