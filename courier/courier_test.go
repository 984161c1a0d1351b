package courier_test

import (
	"encoding/hex"
	"math"
	"slices"
	"strings"
	"testing"

	"prompter/api"
	"prompter/courier"
	"prompter/kind"
	"prompter/value"
)

var negativeZero = math.Copysign(0, -1)

func plain(k kind.Kind) kind.Type      { return kind.Type{Kind: k} }
func text(most int) kind.Type          { return kind.Type{Kind: kind.Text, Most: most} }
func ref(name string) kind.Type        { return kind.Type{Kind: kind.Ref, Names: []string{name}} }
func seq(n int, x kind.Type) kind.Type { return kind.Type{Kind: kind.Seq, Most: n, Of: []kind.Type{x}} }
func enum(n int) kind.Type             { return kind.Type{Kind: kind.Enum, Names: names(n)} }
func record(of ...kind.Type) kind.Type {
	return kind.Type{Kind: kind.Record, Names: names(len(of)), Of: of}
}
func choice(of ...kind.Type) kind.Type {
	return kind.Type{Kind: kind.Choice, Names: names(len(of)), Of: of}
}

// names returns the names a, ab, abc and so on.
func names(n int) []string {
	var list []string
	for i := range n {
		list = append(list, "abcdefghijklmnopqrstuvwxyz"[:i%26+1])
	}
	return list
}

func times[T any](n int, x T) []T { return slices.Repeat([]T{x}, n) }

func num(n int64) value.Value            { return value.Value{N: n} }
func float(f float64) value.Value        { return value.Value{F: f} }
func bits(n uint64) value.Value          { return float(math.Float64frombits(n)) }
func str(s string) value.Value           { return value.Value{Text: s} }
func list(of ...value.Value) value.Value { return value.Value{Of: of} }
func pick(n int64, v value.Value) value.Value {
	return value.Value{N: n, Of: []value.Value{v}}
}

// unhex returns the bytes of hexadecimal digits, between which are blanks.
func unhex(t *testing.T, digits string) []byte {
	t.Helper()
	b, err := hex.DecodeString(strings.ReplaceAll(digits, " ", ""))
	if err != nil {
		t.Fatal(err)
	}
	return b
}

// short returns a description of which not too much is printed.
func short(b []byte) string {
	if len(b) > 60 {
		return hex.EncodeToString(b[:60]) + " and so on"
	}
	return hex.EncodeToString(b)
}

// wantPut checks that v is encoded as these bytes.
func wantPut(t *testing.T, x kind.Type, v value.Value, want []byte) {
	t.Helper()
	got, e := courier.Put(x, v)
	if e != api.OK || !slices.Equal(got, want) {
		t.Errorf("Put(%v, %v): %s, error %d, want %s", x, v, short(got), e, short(want))
	}
}

// wantTaken checks that b is decoded as v.
func wantTaken(t *testing.T, x kind.Type, b []byte, want value.Value) {
	t.Helper()
	got, e := courier.Take(x, b)
	if e != api.OK || !value.Same(got, want) {
		t.Errorf("Take(%v, %s): %v, error %d, want %v", x, short(b), got, e, want)
	}
}

// wantBoth checks both ways, and that none of the bytes may be missing and
// none added.
func wantBoth(t *testing.T, x kind.Type, v value.Value, digits string) {
	t.Helper()
	b := unhex(t, digits)
	wantPut(t, x, v, b)
	wantTaken(t, x, b, v)
	for n := range len(b) {
		wantRejected(t, x, b[:n])
	}
	for _, more := range []string{"\x00", "\x01", "\x00\x00", "\x00\x01"} {
		wantRejected(t, x, []byte(string(b)+more))
	}
}

// wantNoPut checks that Put returns error want, and nothing else.
func wantNoPut(t *testing.T, x kind.Type, v value.Value, want api.Errno) {
	t.Helper()
	if b, e := courier.Put(x, v); e != want || len(b) != 0 {
		t.Errorf("Put: %s, error %d, want %d", short(b), e, want)
	}
}

// wantRejected checks that Take returns an error, and nothing else.
func wantRejected(t *testing.T, x kind.Type, b []byte) {
	t.Helper()
	v, e := courier.Take(x, b)
	if e == api.OK || !value.Same(v, value.Value{}) || v.Of != nil {
		t.Errorf("Take(%v, %s): %v, error %d", x, short(b), v, e)
	}
}

func TestP9_1Example(t *testing.T) {
	wantBoth(t, seq(9, plain(kind.Bool)), list(num(1), num(0)), "00 02 00 01 00 00")
}

func TestP9_1Numbers(t *testing.T) {
	for _, c := range []struct {
		x      kind.Type
		n      int64
		digits string
	}{
		{plain(kind.Bool), 0, "00 00"}, {plain(kind.Bool), 1, "00 01"},
		{plain(kind.Card), 0, "00 00"}, {plain(kind.Card), 1, "00 01"}, {plain(kind.Card), 255, "00 ff"}, {plain(kind.Card), 256, "01 00"},
		{plain(kind.Card), 32767, "7f ff"}, {plain(kind.Card), 32768, "80 00"}, {plain(kind.Card), 65535, "ff ff"},
		{plain(kind.Long), 0, "00 00 00 00"}, {plain(kind.Long), 1, "00 00 00 01"}, {plain(kind.Long), -1, "ff ff ff ff"}, {plain(kind.Long), -2, "ff ff ff fe"},
		{plain(kind.Long), 65536, "00 01 00 00"}, {plain(kind.Long), -65536, "ff ff 00 00"}, {plain(kind.Long), 0x12345678, "12 34 56 78"},
		{plain(kind.Long), 1<<31 - 1, "7f ff ff ff"}, {plain(kind.Long), -1 << 31, "80 00 00 00"}, {plain(kind.Long), -1<<31 + 1, "80 00 00 01"},
		{enum(1), 0, "00 00"}, {enum(2), 1, "00 01"}, {enum(12), 0, "00 00"}, {enum(12), 11, "00 0b"},
	} {
		wantBoth(t, c.x, num(c.n), c.digits)
	}
}

func TestP9_1Reals(t *testing.T) {
	for _, c := range []struct {
		f      float64
		digits string
	}{
		{0, "00 00 00 00 00 00 00 00"}, {negativeZero, "80 00 00 00 00 00 00 00"}, {1, "3f f0 00 00 00 00 00 00"}, {-2, "c0 00 00 00 00 00 00 00"},
		{1.0 / 3, "3f d5 55 55 55 55 55 55"}, {math.MaxFloat64, "7f ef ff ff ff ff ff ff"}, {5e-324, "00 00 00 00 00 00 00 01"},
		{math.Inf(1), "7f f0 00 00 00 00 00 00"}, {math.Inf(-1), "ff f0 00 00 00 00 00 00"}, {math.NaN(), "7f f8 00 00 00 00 00 00"},
	} {
		wantBoth(t, plain(kind.Real), float(c.f), c.digits)
		wantBoth(t, record(plain(kind.Bool), plain(kind.Real)), list(num(1), float(c.f)), "00 01 "+c.digits)
	}
	for _, n := range []uint64{0x7ff8000000000001, 0x7ff0000000000001, 0x7fffffffffffffff, 0xfff8000000000000, 0xfff0000000000001, 0xffffffffffffffff, 0x7ff4000000000000} {
		wantPut(t, plain(kind.Real), bits(n), unhex(t, "7f f8 00 00 00 00 00 00"))
		b := []byte{}
		for i := range 8 {
			b = append(b, byte(n>>(56-8*i)))
		}
		wantRejected(t, plain(kind.Real), b)
		wantRejected(t, seq(2, plain(kind.Real)), append([]byte{0, 1}, b...))
	}
}

func TestP9_1Texts(t *testing.T) {
	wantBoth(t, text(1), str(""), "00 00")
	wantBoth(t, text(1), str("a"), "00 01 61 00")
	wantBoth(t, text(3), str("ab"), "00 02 61 62")
	wantBoth(t, text(3), str("abc"), "00 03 61 62 63 00")
	wantBoth(t, text(9), str("\x00"), "00 01 00 00")
	wantBoth(t, text(9), str("\xff\xfe\x00"), "00 03 ff fe 00 00")
	wantBoth(t, text(9), str("é"), "00 02 c3 a9")
	for n := range 61 {
		digits := hex.EncodeToString([]byte{0, byte(n)}) + strings.Repeat("7a", n) + strings.Repeat("00", n%2)
		wantBoth(t, text(60), str(strings.Repeat("z", n)), digits)
		if n > 1 {
			wantRejected(t, text(n-1), unhex(t, digits))
		}
	}
	for _, last := range []string{"01", "61", "80", "ff"} { // behind an odd text
		wantRejected(t, text(9), unhex(t, "00 01 61"+last))
		wantRejected(t, text(9), unhex(t, "00 03 61 62 63"+last))
	}
}

func TestP9_1Lists(t *testing.T) {
	card := plain(kind.Card)
	wantBoth(t, seq(1, card), list(), "00 00")
	wantBoth(t, seq(1, card), list(num(7)), "00 01 00 07")
	wantBoth(t, seq(3, text(3)), list(str("ab"), str(""), str("c")), "00 03 00 02 61 62 00 00 00 01 63 00")
	wantBoth(t, seq(3, seq(2, plain(kind.Long))), list(list(), list(num(-1)), list(num(2), num(3))), "00 03 00 00 00 01 ff ff ff ff 00 02 00 00 00 02 00 00 00 03")
	for n := range 61 {
		b := append([]byte{0, byte(n)}, slices.Repeat([]byte{1, 2}, n)...)
		wantPut(t, seq(60, card), list(times(n, num(258))...), b)
		wantTaken(t, seq(60, card), b, list(times(n, num(258))...))
		if n > 1 {
			wantRejected(t, seq(n-1, card), b)
		}
	}
	wantBoth(t, record(card), list(num(9)), "00 09")
	wantBoth(t, record(plain(kind.Bool), card, plain(kind.Long), plain(kind.Real), text(5), enum(3)), list(num(1), num(2), num(-3), float(-4), str("abcde"), num(2)),
		"00 01 00 02 ff ff ff fd c0 10 00 00 00 00 00 00 00 05 61 62 63 64 65 00 00 02")
	wantBoth(t, record(times(12, card)...), list(times(12, num(0xabcd))...), strings.Repeat("ab cd", 12))
	wantBoth(t, record(record(card, card), seq(2, record(card, enum(2)))), list(list(num(1), num(2)), list(list(num(3), num(0)), list(num(4), num(1)))), "00 01 00 02 00 02 00 03 00 00 00 04 00 01")
}

func TestP9_1Choices(t *testing.T) {
	x := choice(plain(kind.Bool), text(3), seq(2, plain(kind.Card)), record(plain(kind.Card), plain(kind.Card)))
	wantBoth(t, x, pick(0, num(1)), "00 00 00 01")
	wantBoth(t, x, pick(1, str("abc")), "00 01 00 03 61 62 63 00")
	wantBoth(t, x, pick(2, list()), "00 02 00 00")
	wantBoth(t, x, pick(2, list(num(5), num(6))), "00 02 00 02 00 05 00 06")
	wantBoth(t, x, pick(3, list(num(5), num(6))), "00 03 00 05 00 06")
	wantBoth(t, choice(plain(kind.Real)), pick(0, float(1)), "00 00 3f f0 00 00 00 00 00 00")
	wantBoth(t, choice(times(12, plain(kind.Long))...), pick(11, num(-1)), "00 0b ff ff ff ff")
	wantBoth(t, choice(choice(enum(1), enum(2)), enum(3)), pick(0, pick(1, num(1))), "00 00 00 01 00 01")
	wantBoth(t, seq(3, choice(plain(kind.Card), plain(kind.Bool))), list(pick(0, num(7)), pick(1, num(1))), "00 02 00 00 00 07 00 01 00 01")
}

// Bytes of the right number that Put does not make.
func TestP9_1Rejected(t *testing.T) {
	for _, c := range []struct {
		x      kind.Type
		digits []string
	}{
		{plain(kind.Bool), []string{"00 02", "01 00", "01 01", "ff ff", "80 00"}},
		{enum(1), []string{"00 01", "01 00", "ff ff"}},
		{enum(12), []string{"00 0c", "00 ff", "01 00", "ff ff"}},
		{text(2), []string{"00 03 61 62 63 00", "00 02 61 62 00 00", "ff ff 61 62", "00 03 61 62", "00 01 61 62", "61 62"}},
		{seq(2, plain(kind.Bool)), []string{"00 01 00 02", "00 02 00 00 00 02", "00 03 00 00 00 00 00 00", "00 01", "00 00 00 00", "00 02 00 00", "ff ff", "ff ff 00 00"}},
		{record(plain(kind.Bool), plain(kind.Bool)), []string{"00 02 00 00", "00 00 00 02", "00 00", "00 00 00 00 00 00"}},
		{record(plain(kind.Card), text(1)), []string{"00 02 00 02 61 62", "00 00 00 01 61 61"}},
		{choice(plain(kind.Bool), plain(kind.Long)), []string{"00 02 00 00", "00 00 00 02", "00 01 00 01", "00 00 00 00 00 01", "ff ff 00 00", "01 00 00 00", "00 00", "00 01"}},
		{choice(enum(2)), []string{"00 01 00 00", "00 00 00 02"}},
	} {
		for _, digits := range c.digits {
			wantRejected(t, c.x, unhex(t, digits))
			wantRejected(t, seq(1, c.x), unhex(t, "00 01"+digits))
			wantRejected(t, record(plain(kind.Card), c.x, plain(kind.Card)), unhex(t, "00 07"+digits+"00 08"))
			wantRejected(t, choice(plain(kind.Card), c.x), unhex(t, "00 01"+digits))
		}
	}
}

// What is not a value of the type has no encoding.
func TestP9_1ErrArgs(t *testing.T) {
	for _, c := range []struct {
		x kind.Type
		v value.Value
	}{
		{plain(kind.Bool), num(2)}, {plain(kind.Bool), num(-1)}, {plain(kind.Card), num(-1)}, {plain(kind.Card), num(65536)}, {plain(kind.Long), num(1 << 31)}, {plain(kind.Long), num(-1<<31 - 1)},
		{plain(kind.Long), num(1 << 32)}, {plain(kind.Real), num(1)}, {plain(kind.Bool), float(1)}, {plain(kind.Card), value.Value{N: 1, F: negativeZero}}, {text(2), str("abc")}, {text(2), num(1)}, {enum(2), num(2)}, {enum(2), num(-1)},
		{seq(2, plain(kind.Bool)), list(num(0), num(2))}, {seq(1, plain(kind.Bool)), list(num(0), num(1))}, {seq(1, plain(kind.Bool)), num(1)},
		{record(plain(kind.Card), plain(kind.Bool)), list(num(7), num(2))}, {record(plain(kind.Card), plain(kind.Bool)), list(num(7))}, {record(plain(kind.Card)), num(7)}, {record(plain(kind.Card)), list(num(7), num(7))},
		{choice(plain(kind.Card), plain(kind.Bool)), num(1)}, {choice(plain(kind.Card), plain(kind.Bool)), pick(2, num(1))}, {choice(plain(kind.Card), plain(kind.Bool)), pick(-1, num(1))}, {choice(plain(kind.Card), plain(kind.Bool)), pick(1, num(2))},
		{plain(kind.Kinds), value.Value{}}, {plain(255), value.Value{}}, {ref("a"), value.Value{}},
	} {
		wantNoPut(t, c.x, c.v, api.ErrArgs)
		wantNoPut(t, record(plain(kind.Card), c.x), list(num(1), c.v), api.ErrArgs)
		wantNoPut(t, seq(3, c.x), list(c.v), api.ErrArgs)
		wantNoPut(t, choice(plain(kind.Card), c.x), pick(1, c.v), api.ErrArgs)
	}
}

// Types of 20 levels have values; those of more have none, also where the
// bytes do not get there.
func TestP9_1Depth(t *testing.T) {
	for _, c := range []struct {
		in     func(x kind.Type) kind.Type
		with   func(v value.Value) value.Value
		digits string // before those of v
		none   string // of a value that has nothing of x
	}{
		{func(x kind.Type) kind.Type { return seq(1, x) }, func(v value.Value) value.Value { return list(v) }, "00 01", "00 00"},
		{func(x kind.Type) kind.Type { return choice(enum(2), x) }, func(v value.Value) value.Value { return pick(1, v) }, "00 01", "00 00 00 01"},
		{func(x kind.Type) kind.Type { return record(plain(kind.Card), x) }, func(v value.Value) value.Value { return list(num(5), v) }, "00 05", ""},
	} {
		x, v, digits := plain(kind.Card), num(9), "00 09"
		for levels := 1; levels < 40; levels++ {
			if levels <= 20 {
				wantBoth(t, x, v, digits)
			} else {
				wantNoPut(t, x, v, api.ErrArgs)
				wantRejected(t, x, unhex(t, digits))
				wantRejected(t, x, unhex(t, c.none))
			}
			x, v, digits = c.in(x), c.with(v), c.digits+digits
		}
	}
}

// Types with Refs, or with what is no kind, have no values, also where the
// bytes do not get there.
func TestP9_1Whole(t *testing.T) {
	for _, c := range []struct {
		x      kind.Type
		v      value.Value
		digits string
	}{
		{ref("a"), num(0), ""}, {ref("a"), num(0), "00 00"}, {seq(2, ref("a")), list(), "00 00"}, {seq(2, ref("a")), list(num(0)), "00 01 00 00"},
		{record(plain(kind.Bool), ref("a")), list(num(0), num(0)), "00 00"}, {record(plain(kind.Bool), ref("a")), list(num(0), num(0)), "00 00 00 00"}, {record(ref("a")), list(num(0)), ""},
		{choice(plain(kind.Bool), ref("a")), pick(0, num(0)), "00 00 00 00"}, {choice(ref("a"), plain(kind.Bool)), pick(1, num(0)), "00 01 00 00"}, {choice(ref("a")), pick(0, num(0)), "00 00"},
		{seq(2, choice(enum(1), record(plain(kind.Card), seq(1, ref("a"))))), list(), "00 00"},
		{plain(kind.Kinds), num(0), ""}, {plain(kind.Kinds), num(0), "00 00"}, {plain(255), num(0), "00 00"}, {seq(2, plain(99)), list(num(0)), "00 01"}, {record(plain(kind.Card), plain(99)), list(num(0), num(0)), "00 00"},
	} {
		wantRejected(t, c.x, unhex(t, c.digits))
		wantNoPut(t, c.x, c.v, api.ErrArgs)
	}
}
