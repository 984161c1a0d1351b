package wire_test

import (
	"bytes"
	"fmt"
	"math"
	"strings"
	"testing"

	"prompter/api"
	"prompter/wire"
)

// sizes are lengths of texts at which something changes: none, odd and even,
// a length of one byte and of two, the greatest ones.
var sizes = []int{0, 1, 2, 3, 254, 255, 256, 257, 4000, 65534, 65535}

// letters returns a text of n bytes, no two neighbours alike.
func letters(n int) string {
	b := make([]byte, n)
	for i := range b {
		b[i] = byte('a' + i%26)
	}
	return string(b)
}

// written returns the bytes of a new Writer after f.
func written(f func(w *wire.Writer)) []byte {
	var w wire.Writer
	f(&w)
	return w.Bytes()
}

// wantBytes checks what f writes.
func wantBytes(t *testing.T, what string, f func(w *wire.Writer), want string) {
	t.Helper()
	if got := written(f); string(got) != want {
		t.Errorf("%s: % x, want % x", what, got, want)
	}
}

// wantFailed checks that r has error e, stays so, and yields nothing more.
func wantFailed(t *testing.T, what string, r *wire.Reader, e api.Errno) {
	t.Helper()
	for i := range 2 {
		if r.Err() != e || r.End() != e || r.Left() != 0 {
			t.Errorf("%s: round %d: Err %d, End %d, Left %d, want %d, %d, 0", what, i, r.Err(), r.End(), r.Left(), e, e)
		}
		if r.Word() != 0 || r.Within(65535) != 0 || r.Long() != 0 || r.Quad() != 0 || r.Text(65535) != "" {
			t.Errorf("%s: round %d: a result after error %d", what, i, e)
		}
		r.Within(-1)
		r.Fail(api.ErrGone)
	}
}

func TestP1_1Empty(t *testing.T) {
	var w wire.Writer
	if w.Len() != 0 || len(w.Bytes()) != 0 {
		t.Errorf("zero Writer: Len %d, Bytes % x", w.Len(), w.Bytes())
	}
}

func TestP1_1Numbers(t *testing.T) {
	for n, want := range map[uint16]string{
		0: "\x00\x00", 1: "\x00\x01", 0x0102: "\x01\x02", 0x8000: "\x80\x00", 0xfffe: "\xff\xfe",
	} {
		wantBytes(t, fmt.Sprintf("Word(%x)", n), func(w *wire.Writer) { w.Word(n) }, want)
	}
	for n, want := range map[uint32]string{
		0: "\x00\x00\x00\x00", 1: "\x00\x00\x00\x01", 0x01020304: "\x01\x02\x03\x04",
		0x80000000: "\x80\x00\x00\x00", 0xfffefdfc: "\xff\xfe\xfd\xfc",
	} {
		wantBytes(t, fmt.Sprintf("Long(%x)", n), func(w *wire.Writer) { w.Long(n) }, want)
	}
	for n, want := range map[uint64]string{
		0:                  "\x00\x00\x00\x00\x00\x00\x00\x00",
		1:                  "\x00\x00\x00\x00\x00\x00\x00\x01",
		0x0102030405060708: "\x01\x02\x03\x04\x05\x06\x07\x08",
		1 << 63:            "\x80\x00\x00\x00\x00\x00\x00\x00",
		0xfffefdfcfbfaf9f8: "\xff\xfe\xfd\xfc\xfb\xfa\xf9\xf8",
	} {
		wantBytes(t, fmt.Sprintf("Quad(%x)", n), func(w *wire.Writer) { w.Quad(n) }, want)
	}
}

func TestP1_1Text(t *testing.T) {
	for s, want := range map[string]string{
		"":              "\x00\x00",
		"a":             "\x00\x01a\x00",
		"ab":            "\x00\x02ab",
		"abc":           "\x00\x03abc\x00", // the chapter's example
		"\x00":          "\x00\x01\x00\x00",
		"\xff\x80\x00":  "\x00\x03\xff\x80\x00\x00",
		"\u00e9\u20ac":  "\x00\x05\xc3\xa9\xe2\x82\xac\x00",
		"a\x00b\nc\xfe": "\x00\x06a\x00b\nc\xfe",
	} {
		wantBytes(t, fmt.Sprintf("Text(%q)", s), func(w *wire.Writer) { w.Text(s) }, want)
	}
	for _, n := range sizes {
		s := letters(n)
		want := string([]byte{byte(n >> 8), byte(n)}) + s + strings.Repeat("\x00", n%2)
		if got := written(func(w *wire.Writer) { w.Text(s) }); string(got) != want {
			t.Errorf("Text of %d bytes: %d bytes, want %d", n, len(got), len(want))
		}
	}
}

func TestP1_1Appends(t *testing.T) {
	var w wire.Writer
	want := ""
	for i, step := range []struct {
		write func()
		adds  string
	}{
		{func() { w.Text("x") }, "\x00\x01x\x00"},
		{func() { w.Word(0x0a0b) }, "\x0a\x0b"},
		{func() { w.Quad(2) }, "\x00\x00\x00\x00\x00\x00\x00\x02"},
		{func() { w.Text("") }, "\x00\x00"},
		{func() { w.Long(65538) }, "\x00\x01\x00\x02"},
		{func() { w.Text("yz") }, "\x00\x02yz"},
		{func() { w.Word(0) }, "\x00\x00"},
	} {
		step.write()
		want += step.adds
		if string(w.Bytes()) != want || w.Len() != len(want) {
			t.Errorf("step %d: Len %d, % x, want % x", i, w.Len(), w.Bytes(), want)
		}
	}
}

func TestP1_2DecodesWords(t *testing.T) {
	b := written(func(w *wire.Writer) {
		for n := range 65536 {
			w.Word(uint16(n))
		}
	})
	words, within := wire.Read(b), wire.Read(b)
	for n := range 65536 {
		if got := words.Word(); int(got) != n {
			t.Fatalf("Word: %d, want %d", got, n)
		}
		if got := within.Within(n); got != n {
			t.Fatalf("Within(%d): %d", n, got)
		}
		if left := len(b) - 2*n - 2; words.Left() != left || within.Left() != left {
			t.Fatalf("Left: %d and %d, want %d", words.Left(), within.Left(), left)
		}
	}
	if words.End() != api.OK || within.End() != api.OK {
		t.Errorf("End: %d and %d", words.End(), within.End())
	}
}

func TestP1_2DecodesBits(t *testing.T) {
	for i := range 64 {
		for _, n := range []uint64{1 << i, 1<<i - 1, ^uint64(1 << i)} {
			r := wire.Read(written(func(w *wire.Writer) { w.Quad(n); w.Long(uint32(n)); w.Word(uint16(n)) }))
			if q, l, s := r.Quad(), r.Long(), r.Word(); q != n || l != uint32(n) || s != uint16(n) {
				t.Errorf("%x: Quad %x, Long %x, Word %x", n, q, l, s)
			}
			if r.Err() != api.OK || r.Left() != 0 || r.End() != api.OK {
				t.Errorf("%x: Err %d, Left %d, End %d", n, r.Err(), r.Left(), r.End())
			}
		}
	}
}

func TestP1_2DecodesTexts(t *testing.T) {
	for _, n := range sizes {
		for _, more := range []int{0, 1, math.MaxInt - n} {
			s := letters(n)
			r := wire.Read(written(func(w *wire.Writer) { w.Text(s); w.Word(7) }))
			if r.Text(n+more) != s || r.Err() != api.OK || r.Left() != 2 || r.Word() != 7 || r.End() != api.OK {
				t.Errorf("Text of %d bytes, at most %d: error %d, %d left", n, n+more, r.Err(), r.Left())
			}
		}
	}
	r := wire.Read([]byte("\x00\x03\xff\x00\x80\x00"))
	if s := r.Text(3); s != "\xff\x00\x80" || r.End() != api.OK {
		t.Errorf("Text of any bytes: %q, error %d", s, r.End())
	}
}

func TestP1_2Mixed(t *testing.T) {
	r := wire.Read(written(func(w *wire.Writer) {
		w.Text("abc")
		w.Long(65538)
		w.Text("")
		w.Word(9)
		w.Quad(1 << 40)
		w.Text("de")
	}))
	if r.Text(3) != "abc" || r.Long() != 65538 || r.Text(0) != "" || r.Within(9) != 9 || r.Quad() != 1<<40 || r.Text(2) != "de" {
		t.Error("not as it was written")
	}
	if r.Left() != 0 || r.Err() != api.OK || r.End() != api.OK {
		t.Errorf("Left %d, Err %d, End %d", r.Left(), r.Err(), r.End())
	}
}

// reads are ways to read, with the bytes of which each needs all.
var reads = []struct {
	name string
	b    string
	read func(r *wire.Reader) bool // reports whether the result is zero
}{
	{"Word", "\xff\xff", func(r *wire.Reader) bool { return r.Word() == 0 }},
	{"Within", "\xff\xff", func(r *wire.Reader) bool { return r.Within(65535) == 0 }},
	{"Long", "\xff\xff\xff\xff", func(r *wire.Reader) bool { return r.Long() == 0 }},
	{"Quad", "\xff\xff\xff\xff\xff\xff\xff\xff", func(r *wire.Reader) bool { return r.Quad() == 0 }},
	{"even Text", "\x00\x02ab", func(r *wire.Reader) bool { return r.Text(2) == "" }},
	{"odd Text", "\x00\x03abc\x00", func(r *wire.Reader) bool { return r.Text(3) == "" }},
	{"long Text", "\x01\x01" + strings.Repeat("z", 257) + "\x00", func(r *wire.Reader) bool { return r.Text(300) == "" }},
}

func TestP1_2Short(t *testing.T) {
	for _, c := range reads {
		for n := range len(c.b) {
			r := wire.Read([]byte(c.b[:n]))
			if !c.read(r) {
				t.Errorf("%s of %d bytes: not zero", c.name, n)
			}
			wantFailed(t, fmt.Sprintf("%s of %d bytes", c.name, n), r, api.ErrShort)
		}
		if r := wire.Read([]byte(c.b)); c.read(r) || r.End() != api.OK {
			t.Errorf("%s of all bytes: zero, or error %d", c.name, r.End())
		}
	}
	r := wire.Read([]byte("\xff\xff"))
	if r.Within(-1) != 0 || r.Err() != api.ErrMany {
		t.Errorf("Within(-1): error %d", r.Err())
	}
	r = wire.Read([]byte("\xff"))
	r.Within(-1)
	wantFailed(t, "Within(-1) of one byte", r, api.ErrShort)
}

func TestP1_2Many(t *testing.T) {
	for _, c := range []struct{ n, most int }{
		{1, 0}, {0, -1}, {0, math.MinInt}, {4, 3}, {256, 255}, {65535, 65534}, {65535, 0}, {65535, -65536},
	} {
		what := fmt.Sprintf("%d above %d", c.n, c.most)
		b := written(func(w *wire.Writer) { w.Text(letters(c.n)); w.Long(1) })
		r := wire.Read(b)
		if n := r.Within(c.most); n != 0 {
			t.Errorf("Within, %s: %d", what, n)
		}
		wantFailed(t, "Within, "+what, r, api.ErrMany)
		r = wire.Read(b)
		if s := r.Text(c.most); s != "" {
			t.Errorf("Text, %s: %q", what, s)
		}
		wantFailed(t, "Text, "+what, r, api.ErrMany)
	}
	// The length comes first: that it is too great is met before bytes are missing.
	r := wire.Read([]byte("\x00\x05ab"))
	r.Text(4)
	wantFailed(t, "Text, too long and cut off", r, api.ErrMany)
}

func TestP1_2Form(t *testing.T) {
	for pad := 1; pad < 256; pad++ {
		r := wire.Read([]byte{0, 1, 'A', byte(pad), 0, 0})
		if s := r.Text(5); s != "" {
			t.Errorf("byte %d after an odd Text: %q", pad, s)
		}
		wantFailed(t, fmt.Sprintf("byte %d after an odd Text", pad), r, api.ErrForm)
	}
	// Behind an even Text anything may follow.
	r := wire.Read([]byte("\x00\x02AB\xff\xff"))
	if r.Text(5) != "AB" || r.Word() != 65535 || r.End() != api.OK {
		t.Errorf("after an even Text: error %d", r.Err())
	}
}

func TestP1_2Rest(t *testing.T) {
	for n := range 5 {
		r := wire.Read(make([]byte, 2+n))
		r.Word()
		want := api.OK
		if n > 0 {
			want = api.ErrRest
		}
		if r.Left() != n || r.Err() != api.OK || r.End() != want || r.End() != want {
			t.Errorf("%d bytes left: Left %d, Err %d, End %d", n, r.Left(), r.Err(), r.End())
		}
	}
	for _, b := range [][]byte{nil, {}} {
		if r := wire.Read(b); r.Left() != 0 || r.Err() != api.OK || r.End() != api.OK {
			t.Errorf("no bytes: Left %d, Err %d, End %d", r.Left(), r.Err(), r.End())
		}
	}
}

func TestP1_2Fail(t *testing.T) {
	for _, e := range []api.Errno{api.ErrNil, api.ErrRange, api.ErrRest, api.ErrNumber, -1, math.MaxInt} {
		r := wire.Read([]byte{1, 2, 3, 4})
		if r.Word() != 0x0102 {
			t.Error("Word before Fail")
		}
		r.Fail(e)
		wantFailed(t, fmt.Sprintf("Fail(%d)", e), r, e)
	}
	r := wire.Read([]byte{1})
	r.Word()
	r.Fail(api.ErrRange)
	wantFailed(t, "Fail after ErrShort", r, api.ErrShort)
	r = wire.Read([]byte{1, 2})
	r.Fail(api.OK)
	if r.Err() != api.OK || r.Left() != 2 || r.Word() != 0x0102 || r.End() != api.OK {
		t.Errorf("Fail(OK): Err %d, Left %d", r.Err(), r.Left())
	}
	r.Fail(api.ErrKind)
	wantFailed(t, "Fail at the end", r, api.ErrKind)
}

// P1: no arguments make a call panic, or not end.
func TestP1NoPanic(t *testing.T) {
	var w wire.Writer
	for _, n := range []int{65536, 65537, 1 << 20} {
		w.Text(letters(n))
	}
	w.Word(3)
	if b := w.Bytes(); !bytes.HasSuffix(b, []byte{0, 3}) {
		t.Error("Word after a Text that is too long")
	}
	for _, c := range reads {
		for n := range len(c.b) + 1 {
			for _, most := range []int{math.MinInt, -1, 0, 1, 65535, 65536, math.MaxInt} {
				r := wire.Read([]byte(c.b[:n]))
				r.Text(most)
				r.Within(most)
				r.Fail(api.Errno(most))
				c.read(r)
				r.End()
			}
		}
	}
	var zero wire.Reader
	if zero.Left() != 0 || zero.End() != api.OK || zero.Word() != 0 || zero.End() != api.ErrShort {
		t.Error("zero Reader: not as one of no bytes")
	}
}

// P2, R1.
func TestR1(t *testing.T) {
	if math.MaxInt != math.MaxInt64 {
		t.Error("int has not 64 bits")
	}
}

// P2, R2: bytes that are missing count before what the last of them is.
func TestR2(t *testing.T) {
	r := wire.Read([]byte{0, 1, 'A'})
	r.Text(1)
	wantFailed(t, "odd Text without its last byte", r, api.ErrShort)
	r = wire.Read([]byte{0, 3, 'A', 'B', 'C', 1})
	r.Text(2)
	wantFailed(t, "odd Text, too long, with a wrong last byte", r, api.ErrMany)
}

// P2, R4: End returns an error and changes nothing.
func TestR4(t *testing.T) {
	r := wire.Read([]byte{0, 7})
	if r.End() != api.ErrRest || r.Err() != api.OK || r.Left() != 2 || r.Word() != 7 || r.End() != api.OK {
		t.Errorf("after ErrRest: Err %d, Left %d, End %d", r.Err(), r.Left(), r.End())
	}
}

// P2, R5: no bytes may be nil or empty.
func TestR5(t *testing.T) {
	for _, b := range [][]byte{nil, {}} {
		r := wire.Read(b)
		if r.Word() != 0 || r.Err() != api.ErrShort {
			t.Errorf("Word of no bytes: error %d", r.Err())
		}
	}
}

// P2, R6: arguments and results are the caller's alone.
func TestR6(t *testing.T) {
	b := append(make([]byte, 0, 16), "\x00\x03abc\x00"...)
	r := wire.Read(b)
	clear(b)
	_ = append(b, 1, 2, 3, 4)
	if r.Text(3) != "abc" || r.End() != api.OK {
		t.Error("Read retains its argument")
	}
	b = append(make([]byte, 0, 16), "\x00\x03abc\x00"...)
	r = wire.Read(b)
	r.Text(3)
	r.Word()
	if string(b[:16]) != "\x00\x03abc\x00"+strings.Repeat("\x00", 10) {
		t.Errorf("Read changes its argument: % x", b[:16])
	}

	var w wire.Writer
	for i := range 100 {
		w.Word(uint16(i))
		first := w.Bytes()
		_ = append(first, 0xee, 0xee)
		clear(first)
		if second := w.Bytes(); len(second) != 2*i+2 || second[2*i+1] != byte(i) {
			t.Fatalf("Bytes shares memory with the Writer: % x", second)
		}
	}
	before := w.Bytes()
	w.Word(0x1111)
	if after := w.Bytes(); len(before) != 200 || string(after) != string(append(before, 0x11, 0x11)) {
		t.Error("a later Word changes Bytes")
	}
}

// P2, R7.
func TestR7NilWriter(t *testing.T) {
	var w *wire.Writer
	w.Word(1)
	w.Long(1)
	w.Quad(1)
	w.Text("")
	w.Text("abc")
	if w.Len() != 0 || len(w.Bytes()) != 0 {
		t.Errorf("nil Writer: Len %d, Bytes % x", w.Len(), w.Bytes())
	}
}

// P2, R7.
func TestR7NilReader(t *testing.T) {
	var r *wire.Reader
	for range 2 {
		if r.Err() != api.ErrNil || r.End() != api.ErrNil || r.Left() != 0 {
			t.Errorf("nil Reader: Err %d, End %d, Left %d", r.Err(), r.End(), r.Left())
		}
		if r.Word() != 0 || r.Long() != 0 || r.Quad() != 0 {
			t.Error("nil Reader: a number")
		}
		for _, most := range []int{-1, 0, 1, math.MaxInt} {
			if r.Within(most) != 0 || r.Text(most) != "" {
				t.Errorf("nil Reader: a result of at most %d", most)
			}
		}
		r.Fail(api.ErrForm)
	}
}

// P2, R3 and R8: Writers and Readers are independent of each other, and the
// same calls on the same bytes have the same results.
func TestR8(t *testing.T) {
	var v, w wire.Writer
	v.Word(1)
	w.Text("ab")
	v.Text("ab")
	w.Word(1)
	if string(v.Bytes()) != "\x00\x01\x00\x02ab" || string(w.Bytes()) != "\x00\x02ab\x00\x01" {
		t.Errorf("two Writers: % x and % x", v.Bytes(), w.Bytes())
	}
	b := v.Bytes()
	q, r := wire.Read(b), wire.Read(b)
	q.Fail(api.ErrKind)
	if r.Word() != 1 || r.Text(2) != "ab" || r.End() != api.OK {
		t.Error("one Reader's error is another one's")
	}
	wantFailed(t, "the first Reader", q, api.ErrKind)
}
