package parcel_test

import (
	"bytes"
	"math"
	"slices"
	"testing"

	"prompter/api"
	"prompter/parcel"
)

// samples are valid parcels: without bytes, with some and with all of them;
// first, middle and last ones.
func samples() []parcel.Parcel {
	return []parcel.Parcel{
		part(0, 0, 0, 1, nil), part(15, highest, 0, 1, nil), part(3, 0x01020304, 0, 1, text(1, 1)),
		part(1, 2, 0, 1, text(47, 2)), part(1, 2, 0, 1, text(size, 3)), part(1, 2, 0, 1, make([]byte, size)),
		part(2, 3, 0, 2, text(size, 4)), part(2, 3, 1, 2, text(1, 5)), part(2, 3, 1, 2, text(2, 6)),
		part(14, 1<<31, 0, most, text(size, 7)), part(14, 1<<31, 50, most, bytes.Repeat([]byte{255}, size)),
		part(15, highest, 98, most, text(size, 8)), part(15, highest, 99, most, text(47, 9)), part(15, highest, 99, most, text(size, 10)),
	}
}

// P18.1: the bytes of parcels, as the chapters make them.
func TestP18_1Bytes(t *testing.T) {
	for b, p := range map[string]parcel.Parcel{
		"\x00\x00\x00\x00\x00\x00\x00\x00\x00\x01\x00\x00":                 part(0, 0, 0, 1, nil),
		"\x00\x0f\x01\x02\x03\x04\x00\x05\x00\x06\x00\x01a\x00":            part(15, 0x01020304, 5, 6, []byte("a")),
		"\x00\x07\xff\xff\xff\xfe\x00\x63\x00\x64\x00\x04abcd":             part(7, highest-1, 99, 100, []byte("abcd")),
		"\x00\x01\x00\x00\x00\x02\x00\x00\x00\x01\x00\x03\x00\x00\x00\x00": part(1, 2, 0, 1, make([]byte, 3)),
	} {
		if got, e := p.Put(); e != api.OK || !bytes.Equal(got, summed([]byte(b))) {
			t.Errorf("Put of %v: % x, error %d, want % x", p, got, e, b)
		}
		wantParcel(t, p)
	}
	b, e := part(0, 0, 0, 1, nil).Put()
	if e != api.OK || string(b) != "\x00\x00\x00\x00\x00\x00\x00\x00\x00\x01\x00\x00\xf7\xbb\x07\x59" {
		t.Errorf("the least parcel: % x, error %d", b, e)
	}
}

// P18.1: samples, and the numbers of messages with each byte among them.
func TestP18_1Samples(t *testing.T) {
	for _, p := range samples() {
		wantParcel(t, p)
		for n := range 256 {
			for shift := range 4 {
				p.Letter = uint32(n << (8 * shift))
				wantParcel(t, p)
				p.Letter = ^p.Letter
				wantParcel(t, p)
			}
		}
	}
}

// P18.1: each From, Part and Many in and around their ranges, with bytes that
// are right for the last part, and for one before it.
func TestP18_1Ranges(t *testing.T) {
	for from := -2; from < 19; from++ {
		for many := -2; many < 104; many++ {
			for i := -2; i < many+3; i++ {
				p := part(from, 7, i, many, text(size, 1))
				right := from >= 0 && from < 16 && many >= 1 && many <= most && i >= 0 && i < many
				if !right {
					wantCheck(t, p, api.ErrRange)
				} else if e := p.Check(); e != api.OK {
					t.Errorf("Check of %v: error %d", p, e)
				}
			}
		}
	}
	for many := range most {
		for i := range many + 1 {
			wantParcel(t, part(i%16, 7, i, many+1, text(size, i)))
		}
	}
}

// P18.1: numbers that are far out of their ranges.
func TestP18_1FarRanges(t *testing.T) {
	for _, n := range []int{
		math.MinInt, math.MinInt + 1, -1 << 32, -1 << 16, -65535, -101, -100, -16, 101, 116, 255, 256, 65535, 65536, 65537,
		1 << 31, 1 << 32, 1<<32 + 1, 1 << 62, math.MaxInt - 1, math.MaxInt,
	} {
		wantCheck(t, part(n, 0, 0, 1, nil), api.ErrRange)
		wantCheck(t, part(0, 0, n, 1, nil), api.ErrRange)
		wantCheck(t, part(0, 0, 0, n, nil), api.ErrRange)
		wantCheck(t, part(0, 0, n, n, nil), api.ErrRange)
		wantCheck(t, part(0, 0, n, most, text(size, 0)), api.ErrRange)
		wantCheck(t, part(n, 0, n, n, text(99, 0)), api.ErrRange)
	}
}

// P18.1: each number of bytes in and above the range, in each place of a
// message.
func TestP18_1Sizes(t *testing.T) {
	for many := range most {
		for i := range many + 1 {
			for n := range 60 {
				if i > 2 && i < many-2 && n > 1 && n < 46 {
					continue
				}
				wantSize(t, part(1, 2, i, many+1, text(n, i)))
			}
		}
	}
	for _, n := range []int{96, 100, 256, 4000, 4800, 65535, 65536, 65536 + size, 1 << 20} {
		wantCheck(t, part(1, 2, 0, 1, text(n, 0)), api.ErrSize)
		wantCheck(t, part(1, 2, 0, 2, text(n, 0)), api.ErrSize)
		wantCheck(t, part(1, 2, 1, 2, text(n, 0)), api.ErrSize)
	}
}

// wantSize checks a parcel whose numbers are in their ranges.
func wantSize(t *testing.T, p parcel.Parcel) {
	t.Helper()
	least := size
	switch {
	case p.Many == 1:
		least = 0
	case p.Part == p.Many-1:
		least = 1
	}
	if n := len(p.Bytes); n < least || n > size {
		wantCheck(t, p, api.ErrSize)
	} else {
		wantParcel(t, p)
	}
}

// wantCut checks the parcels of a message, and that they are the message.
func wantCut(t *testing.T, from int, number uint32, b []byte, many int) {
	t.Helper()
	l, e := parcel.Cut(from, number, b)
	if e != api.OK || len(l) != many {
		t.Fatalf("Cut of %d bytes: %d parcels, error %d, want %d", len(b), len(l), e, many)
	}
	if !slices.EqualFunc(l, cut(from, number, b), same) {
		t.Fatalf("Cut of %d bytes from %d with %d: %v", len(b), from, number, l)
	}
	var whole []byte
	for i, p := range l {
		if p.Part != i || p.Check() != api.OK {
			t.Fatalf("Cut of %d bytes: part %d is %v, error %d", len(b), i, p, p.Check())
		}
		whole = append(whole, p.Bytes...)
	}
	if !bytes.Equal(whole, b) {
		t.Fatalf("Cut of %d bytes: the parts have % x", len(b), whole)
	}
}

// P18.1: messages of no bytes up to the greatest number of them, and the
// example's 50.
func TestP18_1Cut(t *testing.T) {
	for n, many := range map[int]int{0: 1, 1: 1, 47: 1, 48: 1, 49: 2, 50: 2, 95: 2, 96: 2, 97: 3, 4752: 99, 4753: 100, 4799: 100, 4800: 100} {
		wantCut(t, 0, 0, text(n, n), many)
		wantCut(t, 15, highest, text(n, n), many)
		wantCut(t, 9, 1, make([]byte, n), many)
	}
	for n := range 4801 {
		wantCut(t, n%16, uint32(n)<<20+5, text(n, n), max(1, (n+47)/48))
	}
	l, e := parcel.Cut(3, 4, text(50, 1))
	if e != api.OK || len(l) != 2 || !same(l[0], part(3, 4, 0, 2, text(48, 1))) || !same(l[1], part(3, 4, 1, 2, text(50, 1)[48:])) {
		t.Errorf("the example: %v, error %d", l, e)
	}
}

// P18.1: a message without bytes has one parcel without bytes.
func TestP18_1CutNothing(t *testing.T) {
	for from := range 16 {
		for _, b := range [][]byte{nil, {}, text(9, 0)[:0]} {
			l, e := parcel.Cut(from, 5, b)
			if e != api.OK || len(l) != 1 || !same(l[0], part(from, 5, 0, 1, nil)) {
				t.Errorf("Cut of nothing from %d: %v, error %d", from, l, e)
			}
			wantParcel(t, l[0])
		}
	}
}

// wantNoCut checks that there are no parcels.
func wantNoCut(t *testing.T, from int, b []byte, e api.Errno) {
	t.Helper()
	if l, got := parcel.Cut(from, 5, b); got != e || len(l) != 0 {
		t.Errorf("Cut of %d bytes from %d: %d parcels, error %d, want %d", len(b), from, len(l), got, e)
	}
}

// P18.1: what cannot be cut: a sender that is no node, and too many bytes.
func TestP18_1NoCut(t *testing.T) {
	for _, from := range []int{math.MinInt, -1 << 32, -16, -1, 16, 17, 255, 256, 65536, 1 << 32, math.MaxInt} {
		for _, n := range []int{0, 1, 48, 4800, 4801} {
			wantNoCut(t, from, text(n, 0), api.ErrRange)
		}
	}
	for _, n := range []int{4801, 4802, 4847, 4848, 4849, 9600, 65536, 1 << 20} {
		wantNoCut(t, 0, text(n, 0), api.ErrSize)
		wantNoCut(t, 15, make([]byte, n), api.ErrSize)
	}
}

// P18.1: a message's parcels, encoded, are taken as they were.
func TestP18_1CutAndPut(t *testing.T) {
	for _, n := range []int{0, 1, 47, 48, 49, 96, 97, 1000, 4799, 4800} {
		l, _ := parcel.Cut(n%16, uint32(n), text(n, 1))
		for _, p := range l {
			wantParcel(t, p)
		}
	}
}
