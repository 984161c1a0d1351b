package vote_test

import (
	"math"
	"slices"
	"testing"

	"prompter/api"
	"prompter/call"
	"prompter/vote"
	"prompter/wire"
)

// wantNoEntry checks that b fails a reader with e, and that nothing is taken.
func wantNoEntry(t *testing.T, b []byte, e api.Errno) {
	t.Helper()
	r := wire.Read(b)
	x := vote.Take(r)
	if r.Err() != e || r.Left() != 0 || r.End() != e || !zero(x) {
		t.Errorf("Take(% .40x) of %d bytes: %.100v, error %d, want %d", b, len(b), x, r.Err(), e)
	}
}

// P15.1: bytes are missing.
func TestP15_1Short(t *testing.T) {
	entries := []vote.Entry{{}, called(call.Call{}), called(to(1, 2, 3, text(7))), called(to(1, 2, 3, text(most))), joined(0), joined(0, 3, 15), joined(first(16)...)}
	for _, x := range entries {
		b := encoded(x)
		for n := range b {
			wantNoEntry(t, b[:n], api.ErrShort)
		}
	}
}

// P15.1: no Word but three is a kind, whatever follows.
func TestP15_1NoKind(t *testing.T) {
	for kind := 3; kind <= math.MaxUint16; kind++ {
		wantNoEntry(t, words(kind), api.ErrKind)
		wantNoEntry(t, words(kind, 1, 5), api.ErrKind)
		wantNoEntry(t, words(kind, 1, 2, 3, 0, 0), api.ErrKind)
	}
}

// P15.1: longer arguments than Put makes, and another byte than 0 behind an odd
// number of them.
func TestP15_1NoCall(t *testing.T) {
	for size := most + 1; size <= math.MaxUint16; size++ {
		wantNoEntry(t, words(1, 1, 2, 3, size), api.ErrMany)
	}
	wantNoEntry(t, encoded(called(to(1, 2, 3, text(most+1)))), api.ErrMany)
	wantNoEntry(t, encoded(called(to(1, 2, 3, text(65535)))), api.ErrMany)
	for n := 1; n < 256; n++ {
		b := encoded(called(to(1, 2, 3, text(5))))
		b[len(b)-1] = byte(n)
		wantNoEntry(t, b, api.ErrForm)
		wantNoEntry(t, append(b, 0, 0, 0, 0), api.ErrForm)
	}
}

// P15.1: no members, or more than 16, whether they are there or not.
func TestP15_1NoMany(t *testing.T) {
	wantNoEntry(t, words(2, 0), api.ErrMany)
	wantNoEntry(t, words(2, 0, 1, 2), api.ErrMany)
	for many := 17; many <= math.MaxUint16; many++ {
		wantNoEntry(t, words(2, many), api.ErrMany)
	}
	wantNoEntry(t, encoded(joined(first(17)...)), api.ErrMany)
	wantNoEntry(t, append(words(2, 65535), make([]byte, 2*65535)...), api.ErrMany)
}

// P15.1: members that no view may have, each number at each place.
func TestP15_1NoMembers(t *testing.T) {
	for many := 1; many <= 16; many++ {
		for at := range many {
			for n := range 20 {
				l := first(many)
				l[at] = n
				if n != at && (at < many-1 || n < at || n > 15) {
					wantNoEntry(t, words(append([]int{2, many}, l...)...), api.ErrRange)
				}
			}
		}
	}
	for n := 16; n <= math.MaxUint16; n++ {
		wantNoEntry(t, words(2, 1, n), api.ErrRange)
		wantNoEntry(t, words(2, 2, 3, n, 9, 9), api.ErrRange)
	}
	wantNoEntry(t, words(2, 16, 0, 0, 0, 0, 0, 0, 0, 0, 0, 0, 0, 0, 0, 0, 0, 0), api.ErrRange)
	wantNoEntry(t, words(2, 3, 2, 1, 0), api.ErrRange)
	wantNoEntry(t, words(2, 3, 0, 1, 1), api.ErrRange)
}

// P15.1: a reader's earlier error stays, and nothing is taken after it.
func TestP15_1Failed(t *testing.T) {
	for e := api.ErrNil; e <= api.ErrNumber; e++ {
		for _, x := range []vote.Entry{{}, called(to(1, 2, 3, text(10))), joined(1, 2), {Kind: 7}} {
			r := wire.Read(encoded(x))
			r.Fail(e)
			if got := vote.Take(r); r.Err() != e || !zero(got) {
				t.Errorf("Take of %v after error %d: %v, error %d", x, e, got, r.Err())
			}
		}
	}
}

// P15.1: several entries in one row; their ends are found, and one that fails
// ends the row.
func TestP15_1Row(t *testing.T) {
	var w wire.Writer
	var row []vote.Entry
	for n := range 40 {
		row = append(row, vote.Entry{}, called(to(uint16(n), 2, 3, text(n))), joined(first(n%16+1)...))
	}
	for _, x := range row {
		x.Put(&w)
	}
	r := wire.Read(w.Bytes())
	for i, x := range row {
		if got := vote.Take(r); !same(got, x) {
			t.Errorf("entry %d: %v, want %v", i, got, x)
		}
	}
	if r.End() != api.OK {
		t.Errorf("the end: error %d", r.End())
	}
	if got := vote.Take(r); r.Err() != api.ErrShort || !zero(got) {
		t.Errorf("behind the end: %v, error %d", got, r.Err())
	}
	r = wire.Read(slices.Concat(words(0, 2, 1, 5, 3, 0), encoded(joined(1))))
	if a, b := vote.Take(r), vote.Take(r); !zero(a) || !same(b, joined(5)) {
		t.Errorf("before a wrong entry: %v, %v", a, b)
	}
	for range 3 {
		if x := vote.Take(r); !zero(x) || r.Err() != api.ErrKind {
			t.Errorf("behind a wrong entry: %v, error %d", x, r.Err())
		}
	}
}
