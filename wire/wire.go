// Package wire is layer 1: encoding and decoding of words of sixteen bits: see shared/doc/01-wire.md.
package wire

import (
	"slices"

	"prompter/api"
)

// longest is the greatest length of a text that a Word can tell.
const longest = 1<<16 - 1

// Writer encodes words. The zero Writer is empty.
type Writer struct {
	done []byte
}

// Word appends two bytes, the higher one first.
func (w *Writer) Word(n uint16) {
	if w == nil {
		return
	}
	w.done = append(w.done, byte(n>>8), byte(n))
}

// Long appends four bytes, the highest one first.
func (w *Writer) Long(n uint32) {
	w.Word(uint16(n >> 16))
	w.Word(uint16(n))
}

// Quad appends eight bytes, the highest one first.
func (w *Writer) Quad(n uint64) {
	w.Long(uint32(n >> 32))
	w.Long(uint32(n))
}

// Text appends the length of s, its bytes, and a 0 if their number is odd.
// A text whose length no Word can tell is left out, since a wrong length
// would make the words behind it unreadable.
func (w *Writer) Text(s string) {
	if w == nil || len(s) > longest {
		return
	}
	w.Word(uint16(len(s)))
	w.done = append(w.done, s...)
	if len(s)%2 == 1 {
		w.done = append(w.done, 0)
	}
}

// Len returns the number of bytes so far.
func (w *Writer) Len() int {
	if w == nil {
		return 0
	}
	return len(w.done)
}

// Bytes returns the bytes so far, as a copy: what the caller does to it must
// not reach the Writer, nor later words the copy.
func (w *Writer) Bytes() []byte {
	if w == nil {
		return nil
	}
	return slices.Clone(w.done)
}

// Reader decodes what a Writer encoded. Its first error stays.
type Reader struct {
	rest []byte // nil from the first error on, so that every later read finds bytes missing
	err  api.Errno
}

// Read returns a Reader of a copy of b, which the caller may change meanwhile.
func Read(b []byte) *Reader {
	return &Reader{rest: slices.Clone(b)}
}

// Fail sets the error to e if there is none. OK is not an error: it leaves
// the bytes readable.
func (r *Reader) Fail(e api.Errno) {
	if r == nil || e == api.OK || r.err != api.OK {
		return
	}
	r.err = e
	r.rest = nil
}

// Err returns the error.
func (r *Reader) Err() api.Errno {
	if r == nil {
		return api.ErrNil
	}
	return r.err
}

// Left returns how many bytes are left.
func (r *Reader) Left() int {
	if r == nil {
		return 0
	}
	return len(r.rest)
}

// Word decodes two bytes.
func (r *Reader) Word() uint16 {
	return uint16(r.number(2))
}

// Within decodes a Word that is at most most.
func (r *Reader) Within(most int) int {
	n := int(r.Word())
	if n > most {
		r.Fail(api.ErrMany)
		return 0
	}
	return n
}

// Long decodes four bytes.
func (r *Reader) Long() uint32 {
	return uint32(r.number(4))
}

// Quad decodes eight bytes.
func (r *Reader) Quad() uint64 {
	return r.number(8)
}

// Text decodes a text of at most most bytes.
func (r *Reader) Text(most int) string {
	size := r.Within(most)
	padded := r.next(size + size%2)
	if r.Err() != api.OK {
		return ""
	}
	if size%2 == 1 && padded[size] != 0 {
		r.Fail(api.ErrForm)
		return ""
	}
	return string(padded[:size])
}

// End returns the error, or ErrRest if there is none and bytes are left. It
// only tells: the bytes that are left can still be read.
func (r *Reader) End() api.Errno {
	if r.Left() > 0 {
		return api.ErrRest
	}
	return r.Err()
}

// number decodes the next size bytes. It takes them at once, so that a number
// of which some bytes are missing is 0 and not a part of it.
func (r *Reader) number(size int) uint64 {
	var n uint64
	for _, b := range r.next(size) {
		n = n<<8 | uint64(b)
	}
	return n
}

// next takes the next size bytes; it fails with ErrShort if there are fewer.
func (r *Reader) next(size int) []byte {
	if r == nil {
		return nil
	}
	if len(r.rest) < size {
		r.Fail(api.ErrShort)
		return nil
	}
	head := r.rest[:size]
	r.rest = r.rest[size:]
	return head
}
