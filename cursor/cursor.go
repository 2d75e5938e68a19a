// Package cursor is layer 1: numbers as bytes, read until one is missing: see shared/doc/01-cursor.md.
package cursor

import (
	"math"

	"clerestory/api"
)

// source is what a cursor reads from. It stands apart from the cursor so that
// copies of a cursor, too, learn that their Try has ended.
type source struct {
	bytes []byte
	big   bool
	open  bool
}

// giveUp is the panic by which a cursor ends the function that reads. It names
// its source because a Try inside another one must pass on what the cursor of
// the outer one gave up with.
type giveUp struct {
	from *source
	why  api.Errno
}

// Cursor reads bytes.
type Cursor struct {
	from *source
	at   int
}

// Put puts a number behind some bytes.
func Put(b []byte, n, size int, big bool) []byte {
	if !isSize(size) {
		size = 0
	}
	if n < 0 {
		n = 0
	}
	// Not an append to b, which could write into b's spare capacity.
	out := make([]byte, len(b)+size)
	copy(out, b)
	for i := range size {
		out[len(b)+i] = byte(n >> shift(i, size, big))
	}
	return out
}

// Try reads some bytes, and tells why it could not.
func Try(b []byte, big bool, read func(c *Cursor)) (e api.Errno) {
	if read == nil {
		return api.ErrArg
	}
	from := &source{bytes: b, big: big, open: true}
	defer func() {
		// Whichever way read ended: a cursor that was kept must not hold b.
		*from = source{}
		x := recover()
		if x == nil {
			return
		}
		up, ok := x.(giveUp)
		if !ok || up.from != from {
			panic(x)
		}
		e = up.why
	}()
	read(&Cursor{from: from})
	return api.OK
}

// Fail gives up.
func (c *Cursor) Fail(e api.Errno) {
	if c.reads() && e != api.OK {
		panic(giveUp{from: c.from, why: e})
	}
}

// Number is the number that stands next.
func (c *Cursor) Number(size int) int {
	if !c.reads() {
		return 0
	}
	if !isSize(size) {
		c.Fail(api.ErrArg)
	}
	n := number(c.next(size), c.from.big)
	if n > math.MaxInt64 {
		c.Fail(api.ErrRange)
	}
	c.at += size
	return int(n)
}

// Bytes is the next bytes.
func (c *Cursor) Bytes(n int) []byte {
	if !c.reads() || n < 1 {
		return nil
	}
	b := c.next(n)
	out := make([]byte, n)
	copy(out, b)
	c.at += n
	return out
}

// Skip passes bytes by.
func (c *Cursor) Skip(n int) {
	if !c.reads() || n < 1 {
		return
	}
	c.at += len(c.next(n))
}

// Seek goes to a byte.
func (c *Cursor) Seek(at int) {
	if !c.reads() {
		return
	}
	if at < 0 || at > len(c.from.bytes) {
		c.Fail(api.ErrRange)
	}
	c.at = at
}

// At is where it stands.
func (c *Cursor) At() int {
	if !c.reads() {
		return 0
	}
	return c.at
}

// Left is how many bytes are left.
func (c *Cursor) Left() int {
	if !c.reads() {
		return 0
	}
	return len(c.from.bytes) - c.at
}

// End gives up, if bytes are left.
func (c *Cursor) End() {
	if c.Left() > 0 {
		c.Fail(api.ErrMore)
	}
}

// reads tells whether the cursor's Try still runs.
func (c *Cursor) reads() bool {
	return c != nil && c.from != nil && c.from.open
}

// next is the next n bytes, still the source's own. It stays where it is, so
// that a call that gives up later on has not moved the cursor.
func (c *Cursor) next(n int) []byte {
	if n > c.Left() {
		c.Fail(api.ErrShort)
	}
	return c.from.bytes[c.at : c.at+n]
}

// isSize tells whether numbers of so many bytes can be put and read.
func isSize(size int) bool {
	return size == 1 || size == 2 || size == 4 || size == 8
}

// shift is how many bits of a number stand below its byte i.
func shift(i, size int, big bool) int {
	if big {
		i = size - 1 - i
	}
	return 8 * i
}

// number is the number of all bytes. It has no sign, so that one that is too
// great for an int can be told.
func number(b []byte, big bool) uint64 {
	n := uint64(0)
	for i, x := range b {
		n |= uint64(x) << shift(i, len(b), big)
	}
	return n
}
