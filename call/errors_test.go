package call_test

import (
	"bytes"
	"math"
	"reflect"
	"slices"
	"testing"

	"prompter/api"
	"prompter/call"
	"prompter/wire"
)

// wantNoCall checks that b fails a reader with e, and that nothing is taken.
func wantNoCall(t *testing.T, b []byte, e api.Errno) {
	t.Helper()
	r := wire.Read(b)
	c := call.Take(r)
	if r.Err() != e || r.Left() != 0 || r.End() != e || !reflect.DeepEqual(c, call.Call{}) {
		t.Errorf("Take(% .40x) of %d bytes: %.100v, error %d, want %d", b, len(b), c, r.Err(), e)
	}
}

// wantNoAnswer checks the same for answers.
func wantNoAnswer(t *testing.T, b []byte, e api.Errno) {
	t.Helper()
	r := wire.Read(b)
	a := call.TakeAnswer(r)
	if r.Err() != e || r.Left() != 0 || r.End() != e || !reflect.DeepEqual(a, call.Answer{}) {
		t.Errorf("TakeAnswer(% .40x) of %d bytes: %d, %d, %.100v, error %d, want %d", b, len(b), a.Err, a.Raised, a.Bytes, r.Err(), e)
	}
}

// P12.1: bytes are missing.
func TestP12_1Short(t *testing.T) {
	for _, size := range []int{0, 1, 2, 3, 100, 101, 3999, 4000} {
		b := callBytes(of(0x102, 0x304, 0x506, text(size)))
		for n := range b {
			wantNoCall(t, b[:n], api.ErrShort)
		}
		b = answerBytes(answer(0x102, 0x304, text(size)))
		for n := range b {
			wantNoAnswer(t, b[:n], api.ErrShort)
		}
	}
}

// P12.1: longer texts than Put makes, whether their bytes are there or not.
func TestP12_1Long(t *testing.T) {
	for size := most + 1; size <= math.MaxUint16; size++ {
		head := []byte{byte(size >> 8), byte(size)}
		wantNoCall(t, slices.Concat([]byte{0, 1, 0, 2, 0, 3}, head), api.ErrMany)
		wantNoAnswer(t, slices.Concat([]byte{0, 1, 0, 2}, head), api.ErrMany)
	}
	for _, size := range []int{most + 1, most + 2, 5000, 65535} {
		wantNoCall(t, callBytes(of(1, 2, 3, text(size))), api.ErrMany)
		wantNoAnswer(t, answerBytes(answer(1, 2, text(size))), api.ErrMany)
	}
}

// P12.1: another byte than 0 behind an odd text.
func TestP12_1Form(t *testing.T) {
	for _, size := range []int{1, 3, 99, 3999} {
		for n := 1; n < 256; n++ {
			b := callBytes(of(1, 2, 3, text(size)))
			b[len(b)-1] = byte(n)
			wantNoCall(t, b, api.ErrForm)
			wantNoCall(t, append(b, 0, 0, 0, 0), api.ErrForm)
			b = answerBytes(answer(1, 2, text(size)))
			b[len(b)-1] = byte(n)
			wantNoAnswer(t, b, api.ErrForm)
			wantNoAnswer(t, append(b, 0, 0, 0, 0), api.ErrForm)
		}
	}
}

// P12.1: a reader's earlier error stays, and nothing is taken after it.
func TestP12_1Failed(t *testing.T) {
	for e := api.ErrNil; e <= api.ErrNumber; e++ {
		r := wire.Read(callBytes(of(1, 2, 3, text(10))))
		r.Fail(e)
		if c := call.Take(r); r.Err() != e || !reflect.DeepEqual(c, call.Call{}) {
			t.Errorf("Take after error %d: %v, error %d", e, c, r.Err())
		}
		if a := call.TakeAnswer(r); r.Err() != e || !reflect.DeepEqual(a, call.Answer{}) {
			t.Errorf("TakeAnswer after error %d: %d, %d, %v, error %d", e, a.Err, a.Raised, a.Bytes, r.Err())
		}
	}
}

// P12.1: several calls and answers in one row; one that fails ends it.
func TestP12_1Row(t *testing.T) {
	var w wire.Writer
	for n := range uint16(20) {
		of(n, n+1, 7, text(int(n))).Put(&w)
		answer(api.Errno(n), 8, text(int(n))).Put(&w)
	}
	r := wire.Read(w.Bytes())
	for n := range uint16(20) {
		if c := call.Take(r); !sameCall(c, of(n, n+1, 7, text(int(n)))) {
			t.Errorf("call %d: %v", n, c)
		}
		if a := call.TakeAnswer(r); !sameAnswer(a, answer(api.Errno(n), 8, text(int(n)))) {
			t.Errorf("answer %d: %d, %d, %v", n, a.Err, a.Raised, a.Bytes)
		}
	}
	if r.End() != api.OK {
		t.Errorf("the end: error %d", r.End())
	}
	if c := call.Take(r); r.Err() != api.ErrShort || !reflect.DeepEqual(c, call.Call{}) {
		t.Errorf("behind the end: %v, error %d", c, r.Err())
	}
}

// A call or an answer that is not valid has no encoding: nothing is written,
// and its mark is that of no bytes.
func TestP12_1NotValid(t *testing.T) {
	for _, n := range []int{-1, 1 << 16, 1<<16 + 3, 1 << 32, -1 << 16, math.MaxInt, math.MinInt} {
		wantNothing(t, of(1, 2, n, text(3)), answer(api.Errno(n), 2, text(3)))
		wantNothing(t, of(1, 2, n, text(4001)), answer(1, n, text(3)))
	}
	for _, size := range []int{4001, 4002, 65535, 65536, 1 << 20} {
		wantNothing(t, of(1, 2, 3, text(size)), answer(1, 2, text(size)))
	}
}

// wantNothing checks that a writer stays as it is.
func wantNothing(t *testing.T, c call.Call, a call.Answer) {
	t.Helper()
	var w wire.Writer
	w.Word(7)
	c.Put(&w)
	a.Put(&w)
	if !bytes.Equal(w.Bytes(), []byte{0, 7}) || c.Mark() != 0 {
		t.Errorf("%.100v and %d, %d: % .40x, mark %d", c, a.Err, a.Raised, w.Bytes(), c.Mark())
	}
}
