// Package wire is layer 1: numbers and texts as bytes, there and back.
package wire

import (
	"bytes"

	"spyglass/api"
)

// The most bytes that a number takes, whole and by digits of 128.
const (
	mostNum = 8
	mostVar = 10
)

// Num answers the size lowest bytes of n, the highest of them first; none, if size isn't 1 to 8.
func Num(n uint64, size int) []byte {
	if !sizeMay(size) {
		return nil
	}
	b := make([]byte, size)
	for i := range b {
		b[size-1-i] = byte(n >> (8 * i))
	}
	return b
}

// Var answers n by digits of 128, the lowest first, each but the last one with 128 added.
func Var(n uint64) []byte {
	b := make([]byte, 0, mostVar)
	for ; n >= 128; n /= 128 {
		b = append(b, byte(n%128)+128)
	}
	return append(b, byte(n))
}

// Text answers how many bytes b has, and these.
func Text(b []byte) ([]byte, api.Errno) {
	if len(b) > api.MaxText {
		return nil, api.ErrLong
	}
	return append(Var(uint64(len(b))), b...), api.OK
}

// Reader goes over bytes, up to their end or to the first error.
type Reader struct {
	rest []byte
	err  api.Errno
}

// New answers a reader at the beginning of b.
func New(b []byte) *Reader {
	// A copy, so that who owns b may write to it while the reader is in use.
	return &Reader{rest: bytes.Clone(b)}
}

// Num reads a number that Num laid by size bytes.
func (r *Reader) Num(size int) uint64 {
	if !r.reads() {
		return 0
	}
	if !sizeMay(size) {
		r.err = api.ErrArg
		return 0
	}
	var n uint64
	for _, b := range r.Take(size) {
		n = n<<8 | uint64(b)
	}
	return n
}

// Var reads a number that Var laid.
func (r *Reader) Var() uint64 {
	if !r.reads() {
		return 0
	}
	n, size, e := firstVar(r.rest)
	r.err = e
	r.rest = r.rest[size:]
	return n
}

// Text reads a text of at most so many bytes.
func (r *Reader) Text(most int) []byte {
	if !r.reads() {
		return nil
	}
	n, size, e := firstVar(r.rest)
	switch {
	case e != api.OK:
		r.err = e
	case most < 0 || n > uint64(most):
		r.err = api.ErrLong
	case n > uint64(len(r.rest)-size):
		r.err = api.ErrShort
	default:
		r.rest = r.rest[size:]
		return r.Take(int(n))
	}
	return nil
}

// Take reads the next n bytes.
func (r *Reader) Take(n int) []byte {
	if !r.reads() {
		return nil
	}
	switch {
	case n < 0:
		r.err = api.ErrArg
	case n > len(r.rest):
		r.err = api.ErrShort
	default:
		b := bytes.Clone(r.rest[:n])
		r.rest = r.rest[n:]
		return b
	}
	return nil
}

// Left answers how many bytes are left behind the place.
func (r *Reader) Left() int {
	if r == nil {
		return 0
	}
	return len(r.rest)
}

// Err answers the reader's error.
func (r *Reader) Err() api.Errno {
	if r == nil {
		return api.ErrArg
	}
	return r.err
}

// End answers the reader's error; ErrRest, if there is none and bytes are left.
func (r *Reader) End() api.Errno {
	if e := r.Err(); e != api.OK {
		return e
	}
	if r.Left() > 0 {
		return api.ErrRest
	}
	return api.OK
}

// reads tells whether the reader is one that has no error.
func (r *Reader) reads() bool { return r.Err() == api.OK }

// sizeMay tells whether a number may take so many bytes.
func sizeMay(size int) bool { return size >= 1 && size <= mostNum }

// firstVar answers the number with whose digits b begins, and how many bytes they take.
func firstVar(b []byte) (uint64, int, api.Errno) {
	var n uint64
	for i, d := range b {
		// A last digit 0 could be left out, and a tenth one above 1 is beyond 64 bits:
		// both would give a number a second form.
		if i > 0 && d == 0 || i == mostVar-1 && d > 1 {
			return 0, 0, api.ErrForm
		}
		n |= uint64(d%128) << (7 * i)
		if d < 128 {
			return n, i + 1, api.OK
		}
	}
	return 0, 0, api.ErrShort
}
