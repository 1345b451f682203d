// Package wire is layer 1: see shared/doc/01-wire.md.
package wire

import "bytes"

// Reader takes bytes and words from the front of a string of bytes. All
// methods of a nil Reader return zero values.
type Reader struct {
	b  []byte
	at int
}

// New returns a reader at the offset 0 of a copy of b.
func New(b []byte) *Reader {
	return &Reader{b: bytes.Clone(b)}
}

// At returns the offset.
func (r *Reader) At() int {
	if r == nil {
		return 0
	}
	return r.at
}

// Left returns the number of bytes from the offset on.
func (r *Reader) Left() int {
	if r == nil {
		return 0
	}
	return len(r.b) - r.at
}

// Take returns a copy of the next n bytes and moves after them. If n is
// negative or greater than Left(), it returns false and does not move.
func (r *Reader) Take(n int) ([]byte, bool) {
	part, ok := r.next(n)
	return bytes.Clone(part), ok
}

// Rest returns a copy of all bytes from the offset on and moves to the end.
func (r *Reader) Rest() []byte {
	part, _ := r.Take(r.Left())
	return part
}

// Word returns the big-endian number of the next n bytes and moves after them.
// If n is none of 1, 2, 4 and 8, or greater than Left(), it returns false and
// does not move.
func (r *Reader) Word(n int) (uint64, bool) {
	if !isWordSize(n) {
		return 0, false
	}
	part, ok := r.next(n)
	var x uint64
	for _, c := range part {
		x = x<<8 | uint64(c)
	}
	return x, ok
}

// next is Take without the copy: what it returns is only for reading inside
// this package.
func (r *Reader) next(n int) ([]byte, bool) {
	// The comparison with Left cannot overflow; one of r.at+n with the length could.
	if r == nil || n < 0 || n > r.Left() {
		return nil, false
	}
	end := r.at + n
	part := r.b[r.at:end:end]
	r.at = end
	return part, true
}

// Put returns the n big-endian bytes of x, or false if n is none of 1, 2, 4 and
// 8, or x does not fit.
func Put(n int, x uint64) ([]byte, bool) {
	// A shift by 64 bits gives 0, so every x fits 8 bytes.
	if !isWordSize(n) || x>>(8*n) != 0 {
		return nil, false
	}
	b := make([]byte, n)
	for i := range b {
		b[n-1-i] = byte(x >> (8 * i))
	}
	return b, true
}

// Join returns the bytes of all parts in order, in new memory.
func Join(parts ...[]byte) []byte {
	return bytes.Join(parts, nil)
}

// Same reports whether a and b have the same bytes; nil and empty are the same.
func Same(a, b []byte) bool {
	return bytes.Equal(a, b)
}

func isWordSize(n int) bool {
	return n == 1 || n == 2 || n == 4 || n == 8
}
