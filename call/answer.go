package call

import (
	"bytes"

	"prompter/api"
	"prompter/wire"
)

// Answer is what came of a call: an error, which of the declared errors was
// raised, and the marshalled answer.
type Answer struct {
	Err    api.Errno
	Raised int
	Bytes  []byte
}

// Alike reports whether two answers are equal.
func Alike(a, b Answer) bool {
	return a.Err == b.Err && a.Raised == b.Raised && bytes.Equal(a.Bytes, b.Bytes)
}

// Check returns the answer's first error.
func (a Answer) Check() api.Errno {
	return check(a.Bytes, int(a.Err), a.Raised)
}

// Put encodes a valid answer, and writes nothing of any other.
func (a Answer) Put(w *wire.Writer) {
	if a.Check() != api.OK {
		return
	}
	w.Word(uint16(a.Err))
	w.Word(uint16(a.Raised))
	w.Text(string(a.Bytes))
}

// TakeAnswer decodes an answer; after an error it is zero.
func TakeAnswer(r *wire.Reader) Answer {
	var a Answer
	a.Err = api.Errno(r.Word())
	a.Raised = int(r.Word())
	a.Bytes = []byte(r.Text(api.MaxBytes))
	if r.Err() != api.OK {
		return Answer{}
	}
	return a
}
