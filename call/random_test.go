package call_test

import (
	"bytes"
	"math/rand"
	"testing"

	"prompter/api"
	"prompter/call"
	"prompter/wire"
)

// randomNumber returns a number of a Word, often at an edge.
func randomNumber(r *rand.Rand) int {
	if r.Intn(3) == 0 {
		return []int{0, 1, 255, 256, 32767, 32768, 65534, 65535}[r.Intn(8)]
	}
	return r.Intn(1 << uint(r.Intn(17)))
}

// randomText returns bytes, mostly few and often zeros.
func randomText(r *rand.Rand) []byte {
	size := r.Intn(8)
	switch r.Intn(20) {
	case 0:
		size = r.Intn(most + 1)
	case 1:
		size = most - r.Intn(4)
	}
	b := make([]byte, size)
	if r.Intn(2) == 0 {
		r.Read(b)
	}
	return b
}

func randomCall(r *rand.Rand) call.Call {
	return of(uint16(randomNumber(r)), uint16(randomNumber(r)), randomNumber(r), randomText(r))
}

func randomAnswer(r *rand.Rand) call.Answer {
	return answer(api.Errno(randomNumber(r)), randomNumber(r), randomText(r))
}

// P12.1: random calls and answers, and pairs of them, which are equal if their
// encodings are.
func TestP12_1Random(t *testing.T) {
	r := rand.New(rand.NewSource(12))
	for range 50000 {
		c, d := randomCall(r), randomCall(r)
		wantCall(t, c)
		if r.Intn(2) == 0 {
			d.Id, d.Proc = c.Id, c.Proc
		}
		if same := bytes.Equal(callBytes(c), callBytes(d)); call.Same(c, d) != same {
			t.Errorf("Same(%.100v, %.100v): %t", c, d, !same)
		}
		a, b := randomAnswer(r), randomAnswer(r)
		wantAnswer(t, a)
		if r.Intn(2) == 0 {
			b.Err, b.Raised = a.Err, a.Raised
		}
		if alike := bytes.Equal(answerBytes(a), answerBytes(b)); call.Alike(a, b) != alike {
			t.Errorf("Alike of % .100x, % .100x: %t", answerBytes(a), answerBytes(b), !alike)
		}
	}
}

// length returns how many bytes at the start of b are the encoding of so many
// numbers and a text, or which error there is: a recognizer by the chapters.
func length(b []byte, numbers int) (int, api.Errno) {
	head := 2*numbers + 2
	if len(b) < head {
		return 0, api.ErrShort
	}
	size := int(b[head-2])*256 + int(b[head-1])
	end := head + (size+1)/2*2
	switch {
	case size > most:
		return 0, api.ErrMany
	case len(b) < end:
		return 0, api.ErrShort
	case size%2 == 1 && b[end-1] != 0:
		return 0, api.ErrForm
	}
	return end, api.OK
}

// wantAsLength checks both decoders on arbitrary bytes: what is taken is put
// as the same bytes.
func wantAsLength(t *testing.T, b []byte) {
	t.Helper()
	if n, e := length(b, 3); e != api.OK {
		wantNoCall(t, b, e)
	} else {
		r := wire.Read(b)
		if c := call.Take(r); r.Err() != api.OK || r.Left() != len(b)-n || c.Check() != api.OK || !bytes.Equal(callBytes(c), b[:n]) {
			t.Errorf("Take(% .100x): %.100v, error %d, %d left", b, c, r.Err(), r.Left())
		}
	}
	if n, e := length(b, 2); e != api.OK {
		wantNoAnswer(t, b, e)
	} else {
		r := wire.Read(b)
		if a := call.TakeAnswer(r); r.Err() != api.OK || r.Left() != len(b)-n || a.Check() != api.OK || !bytes.Equal(answerBytes(a), b[:n]) {
			t.Errorf("TakeAnswer(% .100x): %d, %d, %.100v, error %d, %d left", b, a.Err, a.Raised, a.Bytes, r.Err(), r.Left())
		}
	}
}

// P12.1: encodings that are changed, cut, or have more behind them, and
// arbitrary bytes.
func TestP12_1Changed(t *testing.T) {
	r := rand.New(rand.NewSource(121))
	for range 50000 {
		b := callBytes(randomCall(r))
		if r.Intn(2) == 0 {
			b = answerBytes(randomAnswer(r))
		}
		switch r.Intn(4) {
		case 0:
			b[r.Intn(len(b))] ^= 1 << uint(r.Intn(8))
		case 1:
			b = b[:r.Intn(len(b))]
		case 2:
			b = append(b, make([]byte, r.Intn(10))...)
		case 3:
			r.Read(b)
		}
		wantAsLength(t, b)
	}
}

// P12.1: all short rows of a few bytes.
func TestP12_1All(t *testing.T) {
	var grow func(b []byte)
	grow = func(b []byte) {
		wantAsLength(t, b)
		if len(b) == 12 {
			return
		}
		for c := range byte(3) {
			grow(append(b, c))
		}
	}
	grow(make([]byte, 0, 12))
}
