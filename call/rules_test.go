package call_test

import (
	"bytes"
	"math"
	"math/rand"
	"slices"
	"testing"

	"prompter/api"
	"prompter/call"
	"prompter/wire"
)

// P1: calls and answers of any numbers and sizes, through every function.
func TestP1Any(t *testing.T) {
	numbers := []int{math.MinInt, -1 << 32, -65536, -1, 0, 1, 65535, 65536, 1 << 32, math.MaxInt}
	for _, n := range numbers {
		for _, size := range []int{0, 1, 4000, 4001, 65535, 65536, 1 << 22} {
			c := of(65535, 65535, n, make([]byte, size))
			a := answer(api.Errno(n), n, c.Args)
			var w wire.Writer
			c.Put(&w)
			a.Put(&w)
			c.Mark()
			if (w.Len() > 0) != (c.Check() == api.OK) || (w.Len() > 0) != (a.Check() == api.OK) || !call.Same(c, c) || !call.Alike(a, a) {
				t.Errorf("with %d and %d bytes: %d are put", n, size, w.Len())
			}
		}
	}
}

// P1: arbitrary bytes, many of them.
func TestP1Bytes(t *testing.T) {
	for n := range 256 {
		for _, size := range []int{0, 1, 7, 8, 4008, 4009, 1 << 20} {
			wantAsLength(t, bytes.Repeat([]byte{byte(n)}, size))
		}
	}
}

// R1: a Proc, an error and a Raised have 64 bits.
func TestR1(t *testing.T) {
	if math.MaxInt != math.MaxInt64 {
		t.Error("int has not 64 bits")
	}
	if of(0, 0, 1<<32, nil).Check() != api.ErrRange || answer(1<<32, 0, nil).Check() != api.ErrRange || answer(0, 1<<32, nil).Check() != api.ErrRange {
		t.Error("a number of 33 bits is not out of range")
	}
}

// R2: of two errors the first.
func TestR2(t *testing.T) {
	long := text(4001)
	if e := of(0, 0, -1, long).Check(); e != api.ErrRange {
		t.Errorf("a call: error %d", e)
	}
	for _, a := range []call.Answer{answer(-1, 0, long), answer(0, -1, long), answer(-1, -1, long)} {
		if e := a.Check(); e != api.ErrRange {
			t.Errorf("an answer: error %d", e)
		}
	}
}

// R3: nothing of a call or an answer of which the end is wrong.
func TestR3(t *testing.T) {
	wantNoCall(t, []byte{0, 1, 0, 2, 0, 3, 0, 2, 9}, api.ErrShort)
	wantNoCall(t, []byte{0, 1, 0, 2, 0, 3, 0, 1, 9, 9}, api.ErrForm)
	wantNoAnswer(t, []byte{0, 1, 0, 2, 0, 2, 9}, api.ErrShort)
	wantNoAnswer(t, []byte{0, 1, 0, 2, 0, 1, 9, 9}, api.ErrForm)
}

// R5: no bytes may be nil or empty.
func TestR5(t *testing.T) {
	c, a := of(1, 2, 3, nil), answer(1, 2, nil)
	d, b := of(1, 2, 3, []byte{}), answer(1, 2, []byte{})
	if !call.Same(c, d) || !call.Same(d, c) || !call.Alike(a, b) || !call.Alike(b, a) || c.Mark() != d.Mark() {
		t.Error("empty is not nil")
	}
	wantCall(t, c)
	wantCall(t, d)
	wantAnswer(t, a)
	wantAnswer(t, b)
	r := wire.Read(slices.Concat(callBytes(c), answerBytes(a)))
	if !call.Same(call.Take(r), c) || !call.Alike(call.TakeAnswer(r), b) || r.End() != api.OK {
		t.Error("nothing is not taken as nothing")
	}
}

// roomy returns b with spare capacity that has something in it.
func roomy(b []byte) []byte {
	return append(slices.Clone(b), 77, 78, 79)[:len(b)]
}

// R6: arguments are not changed, also behind their ends.
func TestR6Unchanged(t *testing.T) {
	r := rand.New(rand.NewSource(6))
	for range 3000 {
		c, a := randomCall(r), randomAnswer(r)
		args, answered := slices.Clone(c.Args), slices.Clone(a.Bytes)
		c.Args, a.Bytes = roomy(c.Args), roomy(a.Bytes)
		wantCall(t, c)
		wantAnswer(t, a)
		call.Same(c, randomCall(r))
		call.Alike(a, randomAnswer(r))
		spare := []byte{77, 78, 79}
		if string(c.Args[:len(args)+3]) != string(append(args, spare...)) || string(a.Bytes[:len(answered)+3]) != string(append(answered, spare...)) {
			t.Fatal("the bytes were changed")
		}
	}
}

// R6: what was put stays as it is when the arguments change.
func TestR6Put(t *testing.T) {
	c, a := of(1, 2, 3, text(50)), answer(1, 2, text(50))
	wanted := slices.Concat(callBytes(c), answerBytes(a))
	var w wire.Writer
	c.Put(&w)
	a.Put(&w)
	clear(c.Args)
	clear(a.Bytes)
	if !bytes.Equal(w.Bytes(), wanted) {
		t.Errorf("put % x, and there is % x", wanted, w.Bytes())
	}
}

// R6: what is taken has memory of its own.
func TestR6Taken(t *testing.T) {
	c, a := of(1, 2, 3, text(50)), answer(1, 2, text(50))
	b := slices.Concat(callBytes(c), answerBytes(a), callBytes(c), answerBytes(a))
	r := wire.Read(b)
	first, answered := call.Take(r), call.TakeAnswer(r)
	clear(b)
	if !sameCall(first, c) || !sameAnswer(answered, a) {
		t.Error("what is taken changes with the bytes")
	}
	clear(append(first.Args, make([]byte, 200)...))
	clear(append(answered.Bytes, make([]byte, 200)...))
	clear(first.Args[:cap(first.Args)])
	clear(answered.Bytes[:cap(answered.Bytes)])
	if d, e := call.Take(r), call.TakeAnswer(r); !sameCall(d, c) || !sameAnswer(e, a) {
		t.Errorf("what is taken next: %v", d)
	}
}

// R7: without a writer or a reader nothing happens.
func TestR7(t *testing.T) {
	of(1, 2, 3, text(5)).Put(nil)
	answer(1, 2, text(5)).Put(nil)
	of(1, 2, -3, text(5)).Put(nil)
	if c := call.Take(nil); !sameCall(c, call.Call{}) {
		t.Errorf("Take(nil): %v", c)
	}
	if a := call.TakeAnswer(nil); !sameAnswer(a, call.Answer{}) {
		t.Errorf("TakeAnswer(nil): %d, %d, %v", a.Err, a.Raised, a.Bytes)
	}
}

// R8: nothing but the arguments and the bytes matters: not what came before,
// nor who else encodes and decodes.
func TestR8(t *testing.T) {
	r := rand.New(rand.NewSource(8))
	var calls []call.Call
	var answers []call.Answer
	for range 1000 {
		calls, answers = append(calls, randomCall(r)), append(answers, randomAnswer(r))
	}
	done := make(chan bool)
	for range 4 {
		order := r.Perm(len(calls))
		go func() {
			defer func() { done <- true }()
			for _, i := range order {
				wantCall(t, calls[i])
				wantAnswer(t, answers[i])
			}
		}()
	}
	for range 4 {
		<-done
	}
}
