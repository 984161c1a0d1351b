package vote_test

import (
	"bytes"
	"math/rand"
	"slices"
	"testing"

	"prompter/api"
	"prompter/call"
	"prompter/vote"
	"prompter/wire"
)

// randomCall returns a call, often with numbers at an edge and with zeros.
func randomCall(r *rand.Rand) call.Call {
	edges := []int{0, 1, 255, 256, 32768, 65535, r.Intn(1 << 16), r.Intn(4)}
	args := make([]byte, r.Intn(8))
	if r.Intn(50) == 0 {
		args = make([]byte, most-r.Intn(4))
	}
	if r.Intn(2) == 0 {
		r.Read(args)
	}
	return to(uint16(edges[r.Intn(8)]), uint16(edges[r.Intn(8)]), edges[r.Intn(8)], args)
}

// randomEntry returns a valid entry.
func randomEntry(r *rand.Rand) vote.Entry {
	switch r.Intn(5) {
	case 0:
		return vote.Entry{}
	case 1, 2:
		return called(randomCall(r))
	}
	return joined(list(1 + r.Intn(1<<16-1))...)
}

// P15.1: random entries, and pairs of them, which are equal if their encodings
// are.
func TestP15_1Random(t *testing.T) {
	r := rand.New(rand.NewSource(15))
	for range 50000 {
		x, y := randomEntry(r), randomEntry(r)
		wantEntry(t, x)
		if x.Kind == vote.Called && y.Kind == vote.Called && r.Intn(2) == 0 {
			y.Call.Id, y.Call.Proc = x.Call.Id, x.Call.Proc
		}
		if equal := bytes.Equal(encoded(x), encoded(y)); vote.Same(x, y) != equal || vote.Same(y, x) != equal {
			t.Errorf("Same(%.100v, %.100v): %t", x, y, !equal)
		}
	}
}

// word returns the Word at a place of b, which is there.
func word(b []byte, place int) int {
	return int(b[2*place])*256 + int(b[2*place+1])
}

// ascend reports whether the first Words of b are members in ascending order.
func ascend(b []byte, many int) bool {
	for i := range many {
		if word(b, i) > 15 || i > 0 && word(b, i-1) >= word(b, i) {
			return false
		}
	}
	return true
}

// length returns how many bytes at the start of b are an entry's encoding, or
// which error there is: a recognizer by the chapters.
func length(b []byte) (int, api.Errno) {
	if len(b) < 2 {
		return 0, api.ErrShort
	}
	switch word(b, 0) {
	case 0:
		return 2, api.OK
	case 1:
		if len(b) < 10 {
			return 0, api.ErrShort
		}
		size := word(b, 4)
		end := 10 + (size+1)/2*2
		switch {
		case size > most:
			return 0, api.ErrMany
		case len(b) < end:
			return 0, api.ErrShort
		case size%2 == 1 && b[end-1] != 0:
			return 0, api.ErrForm
		}
		return end, api.OK
	case 2:
		if len(b) < 4 {
			return 0, api.ErrShort
		}
		many := word(b, 1)
		switch {
		case many < 1 || many > 16:
			return 0, api.ErrMany
		case len(b) < 4+2*many:
			return 0, api.ErrShort
		case !ascend(b[4:], many):
			return 0, api.ErrRange
		}
		return 4 + 2*many, api.OK
	}
	return 0, api.ErrKind
}

// wantAsLength checks Take on arbitrary bytes: what is taken is put as the same
// bytes.
func wantAsLength(t *testing.T, b []byte) {
	t.Helper()
	n, e := length(b)
	if e != api.OK {
		wantNoEntry(t, b, e)
		return
	}
	r := wire.Read(b)
	x := vote.Take(r)
	var w wire.Writer
	x.Put(&w)
	if r.Err() != api.OK || r.Left() != len(b)-n || x.Check() != api.OK || !bytes.Equal(w.Bytes(), b[:n]) || !bytes.Equal(encoded(x), b[:n]) {
		t.Errorf("Take(% .100x): %.100v, error %d, %d left", b, x, r.Err(), r.Left())
	}
}

// P15.1: encodings that are changed, cut, or have more behind them, and
// arbitrary bytes.
func TestP15_1Changed(t *testing.T) {
	r := rand.New(rand.NewSource(151))
	for range 100000 {
		b := encoded(randomEntry(r))
		switch r.Intn(5) {
		case 0:
			b[r.Intn(len(b))] ^= 1 << r.Intn(8)
		case 1:
			b = b[:r.Intn(len(b))]
		case 2:
			b = append(b, make([]byte, r.Intn(10))...)
		case 3:
			b[r.Intn(len(b))] = byte(r.Intn(20))
		case 4:
			r.Read(b[r.Intn(2):])
		}
		wantAsLength(t, b)
	}
}

// P15.1: all rows of up to six of some Words, also with half a Word behind them.
func TestP15_1All(t *testing.T) {
	some := []int{0, 1, 2, 3, 15, 16, 257}
	var grow func(row []int)
	grow = func(row []int) {
		b := words(row...)
		wantAsLength(t, b)
		if len(row) < 6 && !t.Failed() {
			wantAsLength(t, append(b, 1))
			for _, n := range some {
				grow(append(slices.Clone(row), n))
			}
		}
	}
	grow(nil)
}

// checked is a second Check by the chapter.
func checked(x vote.Entry) api.Errno {
	hasCall := x.Call.Id != call.Id{} || x.Call.Proc != 0 || len(x.Call.Args) > 0
	switch {
	case x.Kind > 2:
		return api.ErrKind
	case hasCall && x.Kind != 1, len(x.Members) > 0 && x.Kind != 2:
		return api.ErrForm
	case x.Kind == 1 && (x.Call.Proc < 0 || x.Call.Proc > 65535):
		return api.ErrRange
	case x.Kind == 1 && len(x.Call.Args) > most:
		return api.ErrSize
	case x.Kind == 2 && (len(x.Members) < 1 || len(x.Members) > 16):
		return api.ErrMany
	}
	for i, n := range x.Members {
		if n < 0 || n > 15 || i > 0 && n <= x.Members[i-1] {
			return api.ErrRange
		}
	}
	return api.OK
}

// P15.1: Check of all entries of some kinds, calls and members.
func TestP15_1CheckAll(t *testing.T) {
	calls := []call.Call{{}, to(1, 2, 3, text(4)), to(0, 0, 0, []byte{}), to(0, 0, 65536, nil), to(0, 0, -1, text(most+1)), to(0, 0, 0, text(most+1))}
	lists := [][]int{nil, {}, {0}, {2, 9}, {9, 2}, {-1}, {4, 16}, first(16), first(17), make([]int, 17)}
	for kind := range 5 {
		for _, c := range calls {
			for _, l := range lists {
				x := vote.Entry{Kind: vote.Kind(kind), Call: c, Members: l}
				if e := checked(x); e != api.OK {
					wantCheck(t, x, e)
				} else {
					wantEntry(t, x)
				}
			}
		}
	}
}
