// Package vint is layer 1: see shared/doc/01-vint.md.
package vint

import (
	"math/bits"

	"catchword/api"
)

// longest is how many bytes of seven bits each 64 bits need.
const longest = 10

// Put lays a number in as few bytes as can be: seven bits each, the highest ones ahead; all but the last one have their highest bit set.
func Put(b []byte, n uint64) []byte {
	var groups [longest]byte
	size := length(n)
	for i := range size {
		groups[longest-1-i] = byte(n&0x7f) | 0x80
		n >>= 7
	}
	groups[longest-1] &= 0x7f
	return append(b, groups[longest-size:]...)
}

// length is how many bytes a number needs: 0 has no bits, but a byte all the same.
func length(n uint64) int {
	return max(1, (bits.Len64(n)+6)/7)
}

// Get is the number at the beginning of bytes, and how many bytes it has; 0: there is none.
func Get(b []byte) (uint64, int) {
	// Seven bits that are all 0 at the highest place would give a number a second, longer form.
	if len(b) == 0 || b[0] == 0x80 {
		return 0, 0
	}
	var n uint64
	for i, c := range b {
		if n>>57 != 0 { // seven bits more would push some off
			return 0, 0
		}
		n = n<<7 | uint64(c&0x7f)
		if c < 0x80 {
			return n, i + 1
		}
	}
	return 0, 0
}

// Reader reads numbers and texts, up to a first error.
type Reader struct {
	rest []byte
	err  api.Errno
}

// Read is a reader of bytes.
func Read(b []byte) *Reader {
	// A copy, as the bytes are the caller's, who may change them while they are read.
	return &Reader{rest: append([]byte(nil), b...)}
}

// Num is a number up to most; 0 behind an error.
func (r *Reader) Num(most int) int {
	if r.Err() != api.OK {
		return 0
	}
	n, size := Get(r.rest)
	if size == 0 || n > uint64(max(most, 0)) {
		r.err = api.ErrForm
		return 0
	}
	r.rest = r.rest[size:]
	return int(n)
}

// Text is a text of so many bytes at most.
func (r *Reader) Text(most int) string {
	n := r.Num(most)
	if r.Err() != api.OK {
		return ""
	}
	if n > len(r.rest) {
		r.err = api.ErrForm
		return ""
	}
	s := string(r.rest[:n])
	r.rest = r.rest[n:]
	return s
}

// Left is how many bytes are left.
func (r *Reader) Left() int {
	if r == nil {
		return 0
	}
	return len(r.rest)
}

// Err is the first error.
func (r *Reader) Err() api.Errno {
	if r == nil {
		return api.ErrForm
	}
	return r.err
}

// End is the first error, or that something is left.
func (r *Reader) End() api.Errno {
	if err := r.Err(); err != api.OK {
		return err
	}
	if r.Left() > 0 {
		return api.ErrForm
	}
	return api.OK
}

// Text lays a text behind how many bytes it has.
func Text(b []byte, s string) []byte {
	return append(Put(b, uint64(len(s))), s...)
}

// remainders has for each four bits what is left of them, times x^32, by the polynomial of the sum (lowest bit the highest power): half a byte at a time keeps the table short.
var remainders = [16]uint32{
	0x00000000, 0x1db71064, 0x3b6e20c8, 0x26d930ac,
	0x76dc4190, 0x6b6b51f4, 0x4db26158, 0x5005713c,
	0xedb88320, 0xf00f9344, 0xd6d6a3e8, 0xcb61b38c,
	0x9b64c2b0, 0x86d3d2d4, 0xa00ae278, 0xbdbdf21c,
}

// Sum is the sum of bytes: CRC-32 (of IEEE 802.3).
func Sum(b []byte) uint32 {
	sum := ^uint32(0)
	for _, c := range b {
		sum ^= uint32(c)
		for range 2 {
			sum = sum>>4 ^ remainders[sum&15]
		}
	}
	return ^sum
}
