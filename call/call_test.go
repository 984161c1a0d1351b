package call_test

import (
	"bytes"
	"hash/crc32"
	"math"
	"math/bits"
	"slices"
	"testing"

	"prompter/api"
	"prompter/call"
	"prompter/wire"
)

const most = 4000 // bytes of arguments, or of an answer

// text returns bytes of which no two neighbours are the same.
func text(size int) []byte {
	b := make([]byte, size)
	for i := range b {
		b[i] = byte(i%251 + 1)
	}
	return b
}

// of returns a call.
func of(troupe, number uint16, proc int, args []byte) call.Call {
	return call.Call{Id: call.Id{Troupe: troupe, Number: number}, Proc: proc, Args: args}
}

// answer returns an answer.
func answer(e api.Errno, raised int, b []byte) call.Answer {
	return call.Answer{Err: e, Raised: raised, Bytes: b}
}

// words encodes numbers, the higher byte of each first, and a text behind them.
func words(b []byte, numbers ...int) []byte {
	var out []byte
	for _, n := range append(numbers, len(b)) {
		out = append(out, byte(n/256), byte(n%256))
	}
	out = append(out, b...)
	if len(b)%2 != 0 {
		out = append(out, 0)
	}
	return out
}

// callBytes is what Put makes of a call, by the chapter.
func callBytes(c call.Call) []byte {
	return words(c.Args, int(c.Id.Troupe), int(c.Id.Number), c.Proc)
}

// answerBytes is what Put makes of an answer, by the chapter.
func answerBytes(a call.Answer) []byte {
	return words(a.Bytes, int(a.Err), a.Raised)
}

// sum is chapter 2's checksum, calculated by the library's, whose bits run the
// other way round.
func sum(b []byte) uint32 {
	turned := slices.Clone(b)
	for i, c := range turned {
		turned[i] = bits.Reverse8(c)
	}
	return bits.Reverse32(crc32.ChecksumIEEE(turned))
}

// sameCall compares each field without help of package call.
func sameCall(a, b call.Call) bool {
	return a.Id.Troupe == b.Id.Troupe && a.Id.Number == b.Id.Number && a.Proc == b.Proc && string(a.Args) == string(b.Args)
}

// sameAnswer compares each field without help of package call.
func sameAnswer(a, b call.Answer) bool {
	return a.Err == b.Err && a.Raised == b.Raised && string(a.Bytes) == string(b.Bytes)
}

// wantCall checks all of a valid call: Check, Put, Mark, and Take from behind
// and before other words.
func wantCall(t *testing.T, c call.Call) {
	t.Helper()
	b := callBytes(c)
	if e := c.Check(); e != api.OK {
		t.Errorf("Check of %.100v: error %d", c, e)
	}
	var w wire.Writer
	w.Word(0x1234)
	c.Put(&w)
	w.Word(0x5678)
	all := slices.Concat([]byte{0x12, 0x34}, b, []byte{0x56, 0x78})
	if !bytes.Equal(w.Bytes(), all) {
		t.Fatalf("Put of %.100v: % x, want % x", c, w.Bytes(), all)
	}
	if got := c.Mark(); got != sum(b) {
		t.Errorf("Mark of %.100v: %x, want %x", c, got, sum(b))
	}
	r := wire.Read(all)
	r.Word()
	if got := call.Take(r); !sameCall(got, c) {
		t.Errorf("Take of %.100v: %.100v", c, got)
	}
	if r.Err() != api.OK || r.Left() != 2 || r.Word() != 0x5678 || r.End() != api.OK {
		t.Errorf("Take of %.100v: the reader has error %d, %d bytes left", c, r.Err(), r.Left())
	}
}

// wantAnswer checks all of a valid answer, as wantCall does.
func wantAnswer(t *testing.T, a call.Answer) {
	t.Helper()
	b := answerBytes(a)
	if e := a.Check(); e != api.OK {
		t.Errorf("Check of %.100v: error %d", a.Bytes, e)
	}
	var w wire.Writer
	w.Word(0x1234)
	a.Put(&w)
	w.Word(0x5678)
	all := slices.Concat([]byte{0x12, 0x34}, b, []byte{0x56, 0x78})
	if !bytes.Equal(w.Bytes(), all) {
		t.Fatalf("Put of %d, %d, %.100v: % x, want % x", a.Err, a.Raised, a.Bytes, w.Bytes(), all)
	}
	r := wire.Read(all)
	r.Word()
	if got := call.TakeAnswer(r); !sameAnswer(got, a) {
		t.Errorf("TakeAnswer of %d, %d, %.100v: %d, %d, %.100v", a.Err, a.Raised, a.Bytes, got.Err, got.Raised, got.Bytes)
	}
	if r.Err() != api.OK || r.Left() != 2 || r.Word() != 0x5678 || r.End() != api.OK {
		t.Errorf("TakeAnswer of %d, %d: the reader has error %d, %d bytes left", a.Err, a.Raised, r.Err(), r.Left())
	}
}

// P12.1: the example, and the bytes of some calls and answers.
func TestP12_1Bytes(t *testing.T) {
	calls := map[string]call.Call{
		"\x00\x00\x00\x00\x00\x00\x00\x00":                         {},
		"\x00\x01\x00\x02\x00\x03\x00\x00":                         of(1, 2, 3, nil),
		"\x01\x02\x03\x04\x05\x06\x00\x03\x61\x62\x63\x00":         of(0x102, 0x304, 0x506, []byte("abc")),
		"\xff\xff\xff\xfe\xff\xfd\x00\x04\x00\xff\x00\x00":         of(65535, 65534, 65533, []byte{0, 255, 0, 0}),
		"\x00\x00\x00\x00\xff\xff\x00\x01\x00\x00":                 of(0, 0, 65535, []byte{0}),
		"\x80\x00\x00\x00\x00\x00\x00\x02\x00\x00":                 of(32768, 0, 0, []byte{0, 0}),
		"\x00\x00\x80\x00\x00\x00\x00\x05\x00\x00\x00\x00\x01\x00": of(0, 32768, 0, []byte{0, 0, 0, 0, 1}),
	}
	for b, c := range calls {
		var w wire.Writer
		c.Put(&w)
		if string(w.Bytes()) != b || c.Mark() != sum([]byte(b)) {
			t.Errorf("%v: % x, %x, want % x, %x", c, w.Bytes(), c.Mark(), b, sum([]byte(b)))
		}
		wantCall(t, c)
	}
	answers := map[string]call.Answer{
		"\x00\x00\x00\x00\x00\x00":                 {},
		"\x00\x10\x00\x07\x00\x00":                 answer(api.ErrRaised, 7, nil),
		"\x01\x02\x03\x04\x00\x03\x61\x62\x63\x00": answer(0x102, 0x304, []byte("abc")),
		"\xff\xff\xff\xfe\x00\x02\x00\x00":         answer(65535, 65534, []byte{0, 0}),
		"\x00\x00\xff\xff\x00\x01\x00\x00":         answer(0, 65535, []byte{0}),
		"\x80\x00\x00\x00\x00\x00":                 answer(32768, 0, nil),
	}
	for b, a := range answers {
		var w wire.Writer
		a.Put(&w)
		if string(w.Bytes()) != b {
			t.Errorf("%d, %d, % x: % x, want % x", a.Err, a.Raised, a.Bytes, w.Bytes(), b)
		}
		wantAnswer(t, a)
	}
}

// P12.1: a call has its Id's fields, and an Id is compared as a whole.
func TestP12_1Id(t *testing.T) {
	var c call.Call
	c.Troupe, c.Number = 3, 4
	if c.Id != (call.Id{Troupe: 3, Number: 4}) || c.Id == (call.Id{Troupe: 4, Number: 3}) {
		t.Errorf("%v", c.Id)
	}
	wantCall(t, c)
}

// P12.1: each number in each place.
func TestP12_1Numbers(t *testing.T) {
	for n := range 1 << 16 {
		wantCall(t, of(uint16(n), 1, 2, []byte{3}))
		wantCall(t, of(1, uint16(n), 2, []byte{3}))
		wantCall(t, of(1, 2, n, []byte{3}))
		wantAnswer(t, answer(api.Errno(n), 1, []byte{3}))
		wantAnswer(t, answer(1, n, []byte{3}))
	}
}

// P12.1: each number of bytes, and each byte, also as the last one, next to
// the 0 that makes their number even.
func TestP12_1Sizes(t *testing.T) {
	for size := range most + 1 {
		wantCall(t, of(1, 2, 3, text(size)))
		wantAnswer(t, answer(1, 2, text(size)))
	}
	for n := range 256 {
		for size := 1; size < 5; size++ {
			for at := range size {
				b := make([]byte, size)
				b[at] = byte(n)
				wantCall(t, of(0, 0, 0, b))
				wantAnswer(t, answer(0, 0, b))
			}
		}
	}
}

// P12.1: marks tell calls apart that differ in 32 consecutive bits.
func TestP12_1Mark(t *testing.T) {
	marks := map[uint32]bool{}
	for n := range uint16(1 << 12) {
		marks[of(n, 1, 2, nil).Mark()] = true
	}
	for n := range uint16(1 << 12) {
		marks[of(0xffff, n, 2, nil).Mark()] = true
	}
	if len(marks) != 1<<13 {
		t.Errorf("%d marks of %d calls", len(marks), 1<<13)
	}
	if of(0, 0, 0, nil).Mark() == of(0, 0, 0, []byte{0}).Mark() || of(0, 0, 0, []byte{0}).Mark() == of(0, 0, 0, []byte{0, 0}).Mark() {
		t.Error("the arguments' length is not in the mark")
	}
}

// P12.1: Same and Alike see each field, all of its bits, and each byte.
func TestP12_1Same(t *testing.T) {
	one := of(1, 2, 3, text(100))
	for name, other := range map[string]call.Call{
		"troupe": of(257, 2, 3, text(100)), "number": of(1, 258, 3, text(100)), "exchanged": of(2, 1, 3, text(100)),
		"proc": of(1, 2, 4, text(100)), "proc of more bits": of(1, 2, 3+1<<16, text(100)), "proc of 33 bits": of(1, 2, 3+1<<32, text(100)), "negative": of(1, 2, -3, text(100)),
		"shorter": of(1, 2, 3, text(99)), "longer": of(1, 2, 3, text(101)), "none": of(1, 2, 3, nil), "zero": {},
	} {
		if call.Same(one, other) || call.Same(other, one) || !call.Same(other, other) {
			t.Error("Same: " + name)
		}
	}
	same := answer(1, 2, text(100))
	for name, other := range map[string]call.Answer{
		"error": answer(2, 2, text(100)), "error of more bits": answer(1+1<<16, 2, text(100)), "negative": answer(-1, 2, text(100)), "exchanged": answer(2, 1, text(100)),
		"raised": answer(1, 3, text(100)), "raised of more bits": answer(1, 2+1<<16, text(100)), "raised of 33 bits": answer(1, 2+1<<32, text(100)),
		"shorter": answer(1, 2, text(99)), "longer": answer(1, 2, text(101)), "none": answer(1, 2, nil), "zero": {},
	} {
		if call.Alike(same, other) || call.Alike(other, same) || !call.Alike(other, other) {
			t.Error("Alike: " + name)
		}
	}
	for at := range 100 {
		other := text(100)
		other[at] ^= 128
		if call.Same(one, of(1, 2, 3, other)) || call.Alike(same, answer(1, 2, other)) {
			t.Errorf("byte %d is not compared", at)
		}
	}
	if !call.Same(one, of(1, 2, 3, text(100))) || !call.Alike(same, answer(1, 2, text(100))) {
		t.Error("equal ones are not")
	}
	if long := of(1, 2, 3, text(1<<20)); !call.Same(long, of(1, 2, 3, text(1<<20))) || !call.Alike(answer(-1, -1, long.Args), answer(-1, -1, text(1<<20))) {
		t.Error("equal ones that are not valid are not")
	}
}

// P12.1: Check's errors, in their order.
func TestP12_1Check(t *testing.T) {
	wrong := []int{-1, 1 << 16, -1 << 16, 1<<16 + 1, 1 << 32, 1<<32 + 1, -1 << 32, math.MaxInt, math.MinInt}
	right := []int{0, 1, 65535, 65534, 32768}
	sizes := map[int]api.Errno{0: api.OK, 1: api.OK, 3999: api.OK, 4000: api.OK, 4001: api.ErrSize, 4002: api.ErrSize, 65535: api.ErrSize, 65536: api.ErrSize, 1 << 20: api.ErrSize}
	for size, e := range sizes {
		b := text(size)
		for _, n := range right {
			wantChecks(t, of(uint16(n), 65535, n, b).Check(), e, n, size)
			for _, m := range right {
				wantChecks(t, answer(api.Errno(n), m, b).Check(), e, n, size)
			}
			for _, m := range wrong {
				wantChecks(t, answer(api.Errno(n), m, b).Check(), api.ErrRange, m, size)
				wantChecks(t, answer(api.Errno(m), n, b).Check(), api.ErrRange, m, size)
				wantChecks(t, answer(api.Errno(m), m, b).Check(), api.ErrRange, m, size)
			}
		}
		for _, n := range wrong {
			wantChecks(t, of(0, 0, n, b).Check(), api.ErrRange, n, size)
		}
	}
}

// wantChecks compares errors.
func wantChecks(t *testing.T, got, e api.Errno, n, size int) {
	t.Helper()
	if got != e {
		t.Errorf("Check with %d and %d bytes: error %d, want %d", n, size, got, e)
	}
}
