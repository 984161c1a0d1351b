package courier_test

import (
	"bytes"
	"runtime"
	"strings"
	"testing"

	"prompter/api"
	"prompter/courier"
	"prompter/kind"
	"prompter/value"
)

// sized returns a right type, a value of it, and its encoding, which has so
// many bytes: an even number from 3730 to 4088.
func sized(size int) (kind.Type, value.Value, []byte) {
	x := record(seq(60, text(60)), seq(60, plain(kind.Card)), seq(60, plain(kind.Card)), seq(60, plain(kind.Card)))
	v := list(list(times(60, str(strings.Repeat("q", 60)))...))
	b := append([]byte{0, 60}, bytes.Repeat(append([]byte{0, 60}, strings.Repeat("q", 60)...), 60)...)
	cards := (size - len(b) - 6) / 2
	for range 3 {
		n := min(cards, 60)
		cards -= n
		v.Of = append(v.Of, list(times(n, num(7))...))
		b = append(append(b, 0, byte(n)), bytes.Repeat([]byte{0, 7}, n)...)
	}
	return x, v, b
}

// Of 4000 bytes there is an encoding, but not of more.
func TestP9_1ErrSize(t *testing.T) {
	for size := 3990; size <= 4010; size += 2 {
		x, v, b := sized(size)
		if len(b) != size {
			t.Fatalf("%d bytes, not %d", len(b), size)
		}
		if size > 4000 {
			wantNoPut(t, x, v, api.ErrSize)
			wantTooLong(t, x, b)
			continue
		}
		wantPut(t, x, v, b)
		wantTaken(t, x, b, v)
		wantRejected(t, x, b[:size-1])
		wantRejected(t, x, append(b, 0))
		wantRejected(t, x, append(b, 0, 0))
	}
	for n := range 4010 {
		for _, x := range []kind.Type{plain(kind.Card), seq(60, text(60)), ref("a")} {
			b := make([]byte, n)
			if n > 4000 {
				wantTooLong(t, x, b)
			} else if n > 2 {
				wantRejected(t, x, b)
			}
		}
	}
	wantTooLong(t, plain(kind.Card), make([]byte, 1<<20))
}

func wantTooLong(t *testing.T, x kind.Type, b []byte) {
	t.Helper()
	wantRejected(t, x, b)
	if _, e := courier.Take(x, b); e != api.ErrSize {
		t.Errorf("Take of %d bytes: error %d", len(b), e)
	}
}

// R2: what is too large, but not a value of the type, is ErrArgs.
func TestR2(t *testing.T) {
	x, v, _ := sized(4088)
	wantNoPut(t, x, v, api.ErrSize)
	v.Of[3].Of[0] = num(-1)
	wantNoPut(t, x, v, api.ErrArgs)
	wantNoPut(t, record(x, ref("a")), list(v, num(0)), api.ErrArgs)
	wantNoPut(t, text(60), str(strings.Repeat("x", 5000)), api.ErrArgs)
}

// Types that are whole, but not right, have values, too.
func TestP9_1NotRight(t *testing.T) {
	for _, n := range []int{61, 255, 256, 257, 3996, 3997, 3998} {
		b := append([]byte{byte(n >> 8), byte(n)}, strings.Repeat("x", n)...)
		b = append(b, make([]byte, n%2)...)
		wantPut(t, text(5000), str(strings.Repeat("x", n)), b)
		wantTaken(t, text(5000), b, str(strings.Repeat("x", n)))
		wantTaken(t, text(n), b, str(strings.Repeat("x", n)))
		wantRejected(t, text(n-1), b)
	}
	for _, n := range []int{3999, 4000, 4001, 4002, 65534, 65535, 65536, 65537, 1 << 17, 1 << 20} {
		wantNoPut(t, text(1<<30), str(strings.Repeat("x", n)), api.ErrSize)
		wantNoPut(t, record(text(1<<30), plain(kind.Card)), list(str(strings.Repeat("x", n)), num(1)), api.ErrSize)
	}
	for _, n := range []int{61, 256, 1998, 1999} {
		b := append([]byte{byte(n >> 8), byte(n)}, bytes.Repeat([]byte{0, 1}, n)...)
		wantPut(t, seq(1<<40, plain(kind.Bool)), list(times(n, num(1))...), b)
		wantTaken(t, seq(1<<40, plain(kind.Bool)), b, list(times(n, num(1))...))
	}
	wantNoPut(t, seq(1<<40, plain(kind.Bool)), list(times(2000, num(1))...), api.ErrSize)
	wantNoPut(t, seq(1<<40, plain(kind.Bool)), list(times(1<<17, num(1))...), api.ErrSize)
	wantBoth(t, seq(3, record()), list(value.Value{}, value.Value{}), "00 02")
	wantBoth(t, record(), list(), "")
	wantBoth(t, record(record(), plain(kind.Card), record()), list(list(), num(5), list()), "00 05")
	wantBoth(t, choice(record(), record(record())), pick(1, list(list())), "00 01")
	wantBoth(t, kind.Type{Kind: kind.Record, Of: []kind.Type{plain(kind.Bool)}}, list(num(1)), "00 01")
	wantBoth(t, kind.Type{Kind: kind.Card, Most: 7, Names: names(3), Of: []kind.Type{plain(kind.Bool)}}, num(258), "01 02")
	wantBoth(t, enum(300), num(299), "01 2b")
	wantBoth(t, text(0), str(""), "00 00")
	for _, x := range []kind.Type{text(-1), seq(-1, plain(kind.Bool)), enum(0), choice(), {Kind: kind.Seq, Most: 5}, {Kind: kind.Seq, Most: 5, Of: make([]kind.Type, 2)}} {
		wantRejected(t, x, []byte{0, 0})
		wantRejected(t, x, []byte{0, 1, 0, 1})
		wantRejected(t, x, nil)
	}
}

// A number that no Word can tell is ErrSize: no other value has its encoding.
func TestP9_1Words(t *testing.T) {
	many := kind.Type{Kind: kind.Enum, Names: make([]string, 70000)}
	wantBoth(t, many, num(65535), "ff ff")
	wantNoPut(t, many, num(65536), api.ErrSize)
	wantNoPut(t, many, num(69999), api.ErrSize)
	other := kind.Type{Kind: kind.Choice, Of: make([]kind.Type, 70000)}
	wantBoth(t, other, pick(65535, num(1)), "ff ff 00 01")
	wantNoPut(t, other, pick(65536, num(1)), api.ErrSize)
	empty := seq(1<<40, record())
	wantBoth(t, empty, list(make([]value.Value, 65535)...), "ff ff")
	wantNoPut(t, empty, list(make([]value.Value, 65536)...), api.ErrSize)
	wantNoPut(t, empty, list(make([]value.Value, 65537)...), api.ErrSize)
}

// P1: a few bytes that stand for more values than there is memory for.
func TestP1Memory(t *testing.T) {
	x := seq(65535, seq(65535, record()))
	row := list(make([]value.Value, 65535)...)
	v := list(times(15, row)...) // 1 and 15 times 65536 values
	v.Of = append(v.Of, list(make([]value.Value, 65534)...))
	b := append([]byte{0, 16}, bytes.Repeat([]byte{255, 255}, 16)...)
	b[33] = 254
	wantPut(t, x, v, b)
	wantTaken(t, x, b, v)
	v.Of[15], b[33] = row, 255
	wantNoPut(t, x, v, api.ErrSize)
	wantRejected(t, x, b)
	var before, after runtime.MemStats
	runtime.ReadMemStats(&before)
	wantRejected(t, x, bytes.Repeat([]byte{255}, 4000))
	y := record()
	for range 8 {
		wantRejected(t, seq(65535, y), []byte{255, 255, 0})
		y = record(times(12, y)...)
	}
	runtime.ReadMemStats(&after)
	if grown := after.Sys - before.Sys; grown > 512<<20 {
		t.Errorf("%d bytes of memory", grown)
	}
}
