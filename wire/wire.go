// Package wire encodes unsigned integers as bytes, most significant byte first. It is layer 1: see shared/doc/01-wire.md.
package wire

import (
	"trunkline/api"
)

const (
	maxSize = 8 // bytes of the greatest number
	unit    = 4 // bytes: what is padded is a multiple of it
)

// Put returns b followed by the size lowest bytes of n, or b alone if there is no number of that size.
func Put(b []byte, n uint64, size int) []byte {
	if !isSize(size) {
		return extended(b, 0)
	}
	r := extended(b, size)
	for i := range size {
		r[len(r)-1-i] = byte(n >> (8 * i))
	}
	return r
}

// Get returns the number in the size bytes of b from at on.
func Get(b []byte, at, size int) (uint64, api.Errno) {
	if !isSize(size) || at < 0 {
		return 0, api.ErrArg
	}
	if !reaches(b, at, size) {
		return 0, api.ErrShort
	}
	var n uint64
	for i := range size {
		n = n<<8 | uint64(b[at+i])
	}
	return n, api.OK
}

// Pad returns how much is missing from n to a multiple of 4.
func Pad(n int) int {
	if n < 0 {
		return 0
	}
	return (unit - n%unit) % unit
}

// Padded returns b followed by zero bytes up to a multiple of 4.
func Padded(b []byte) []byte {
	return extended(b, Pad(len(b)))
}

// Part returns the n bytes of b from at on.
func Part(b []byte, at, n int) ([]byte, api.Errno) {
	if at < 0 || n < 0 {
		return nil, api.ErrArg
	}
	if !reaches(b, at, n) {
		return nil, api.ErrShort
	}
	return extended(b[at:at+n], 0), api.OK
}

// isSize reports whether there are numbers of so many bytes.
func isSize(size int) bool {
	return size >= 1 && size <= maxSize
}

// reaches reports whether b has n bytes from at on; it subtracts, because the sum of at and n may wrap round.
func reaches(b []byte, at, n int) bool {
	return n <= len(b)-at
}

// extended returns a copy of b followed by n zero bytes: never b itself, because an answer shares no memory with an argument.
func extended(b []byte, n int) []byte {
	r := make([]byte, len(b)+n)
	copy(r, b)
	return r
}
