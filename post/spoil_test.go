package post_test

import (
	"bytes"
	"math"
	"math/bits"
	"testing"

	"prompter/api"
	"prompter/parcel"
	"prompter/post"
)

// one returns a post of one packet.
func one(b []byte) *post.Post {
	var p post.Post
	p.Send(3, b)
	return &p
}

// wantSpoilt checks what becomes of a packet, and that it does not become
// anything else then.
func wantSpoilt(t *testing.T, b []byte, from int, mask uint32, want []byte) {
	t.Helper()
	p := one(b)
	if !p.Spoil(0, from, mask) {
		t.Errorf("Spoil of % x from %d, %08x", b, from, mask)
	}
	m := model{{3, string(want), true}}
	wantPost(t, p, m)
	if p.Spoil(0, from, mask) || p.Spoil(0, from+1, ^mask) {
		t.Errorf("% x, spoilt from %d, %08x, is spoilt again", b, from, mask)
	}
	wantPost(t, p, m)
}

// masks are those of one bit, of two, of all but one, and others.
func masks() []uint32 {
	l := []uint32{full, 0x04c11db7, 0xedb88320, 0x82608edb, 0x55555555, 0xaaaaaaaa, 0x01020304, 0x80000001, 0xffff0000, 0x0000ffff, 0xff, 0xff000000}
	for n := range 32 {
		bit := uint32(1) << n
		l = append(l, bit, ^bit, bit|1<<31, bit|1)
	}
	return l
}

// P19.1: packets spoilt as the chapter says, worked out by hand.
func TestP19_1Spoil(t *testing.T) {
	for _, x := range []struct {
		bytes string
		from  int
		mask  uint32
		want  string
	}{
		{"\x00\x00\x00\x00", 0, 0x01020304, "\x01\x02\x03\x04"},
		{"\xff\xff\xff\xff", 0, 0x01020304, "\xfe\xfd\xfc\xfb"},
		{"abcd", 0, 1, "abce"},
		{"abcd", 0, 1 << 31, "\xe1bcd"},
		{"\x00\x00\x00\x00\x00", 0, 0x80000001, "\x80\x00\x00\x01\x00"},
		{"\x00\x00\x00\x00\x00", 1, 0x80000001, "\x40\x00\x00\x00\x80"},
		{"\x00\x00\x00\x00\x00", 3, 0x80000001, "\x10\x00\x00\x00\x20"},
		{"\x00\x00\x00\x00\x00", 7, 0x80000001, "\x01\x00\x00\x00\x02"},
		{"\x00\x00\x00\x00\x00", 8, 0x80000001, "\x00\x80\x00\x00\x01"},
		{"\x00\x00\x00\x00\x00", 9, 0x80000001, "\x80\x00\x00\x01\x00"},
		{"\x00\x00\x00\x00\x00", -1, 0x80000001, "\x00\x80\x00\x00\x01"},
		{"\x00\x00\x00\x00\x00", -8, 0x80000001, "\x40\x00\x00\x00\x80"},
		{"\x00\x00\x00\x00\x00", -9, 0x80000001, "\x80\x00\x00\x01\x00"},
		{"\x00\x00\x00\x00\x00\x00", 12, 0x12345678, "\x00\x01\x23\x45\x67\x80"},
		{"\x00\x00\x00\x00\x00\x00", 16, 0x12345678, "\x00\x00\x12\x34\x56\x78"},
		{"\x00\x00\x00\x00\x00\x00", 17, 0x12345678, "\x12\x34\x56\x78\x00\x00"},
		{"\xaa\xaa\xaa\xaa\xaa\xaa\xaa\xaa", 20, full, "\xaa\xaa\xa5\x55\x55\x55\x5a\xaa"},
	} {
		wantSpoilt(t, []byte(x.bytes), x.from, x.mask, []byte(x.want))
	}
}

// P19.1: each bit of a packet may be turned, and by a mask of one bit only this
// one; it is bit from and its place in the mask.
func TestP19_1SpoilBits(t *testing.T) {
	for size := 4; size < 12; size++ {
		b := text(size, size)
		for from := range 8*size - 31 {
			for n := range 32 {
				want := bytes.Clone(b)
				want[(from+n)/8] ^= 1 << (7 - (from+n)%8)
				wantSpoilt(t, b, from, 1<<(31-n), want)
			}
		}
	}
}

// P19.1: from each bit, below 0 and beyond the bits that there are, with masks
// of all sorts.
func TestP19_1SpoilFrom(t *testing.T) {
	for size := 4; size < 10; size++ {
		b, room := text(size, size), 8*size-31
		for from := -3*room - 1; from <= 3*room+1; from++ {
			for _, mask := range masks() {
				want := []byte(turned(string(b), from, mask))
				wantSpoilt(t, b, from, mask, want)
			}
		}
	}
}

// P19.1: from bits that are very far off.
func TestP19_1SpoilFar(t *testing.T) {
	for size := 4; size < 70; size++ {
		b, room := text(size, size), 8*size-31
		for _, from := range []int{
			lowest, lowest + 1, lowest + 31, lowest + room, highest, highest - 1, highest - 31, highest - room, 1 << 32, -1 << 32, 1<<32 + 1,
			math.MaxInt32, math.MinInt32, 1 << 16, -1 << 16, 8 * size, 8*size - 1, -8 * size, room << 32, -room << 32, room<<32 - 1, -room<<32 - 1,
		} {
			for _, mask := range []uint32{1, 1 << 31, full, 0x12345678} {
				wantSpoilt(t, b, from, mask, []byte(turned(string(b), from, mask)))
			}
		}
	}
}

// P19.1: packets of all lengths from four bytes on, at their first bit, their
// last one, and beyond it.
func TestP19_1SpoilSizes(t *testing.T) {
	for size := 4; size < 300; size++ {
		b, room := text(size, size), 8*size-31
		for _, from := range []int{0, 1, 8, room / 2, room - 2, room - 1, room, -1} {
			wantSpoilt(t, b, from, 0x80000001, []byte(turned(string(b), from, 0x80000001)))
		}
	}
	for _, size := range []int{4000, 65535, 65536, 65537, 1 << 20} {
		b := text(size, 1)
		want := append(text(size-4, 1), make([]byte, 4)...)
		for i := range 4 {
			want[size-4+i] = b[size-4+i] ^ 0xff
		}
		wantSpoilt(t, b, -1, full, want)
		wantSpoilt(t, b, 8*size-32, full, want)
	}
}

// P19.1: a mask of n bits turns n bits, all within 32 consecutive ones.
func TestP19_1SpoilMany(t *testing.T) {
	for _, mask := range masks() {
		for size := 4; size < 9; size++ {
			for from := range 8*size - 31 {
				b := text(size, from)
				p := one(b)
				p.Spoil(0, from, mask)
				f, _ := p.Look(0)
				first, last, many := 8*size, 0, 0
				for at := range 8 * size {
					if (f.Bytes[at/8]^b[at/8])>>(7-at%8)&1 == 1 {
						first, last, many = min(first, at), at, many+1
					}
				}
				if many != bits.OnesCount32(mask) || last-first > 31 || first < from || last > from+31 {
					t.Errorf("from %d, %08x: %d bits turned from %d to %d", from, mask, many, first, last)
				}
			}
		}
	}
}

// P19.1: a mask of 0, and fewer than four bytes, spoil nothing; four bytes with
// another mask are spoilt afterwards.
func TestP19_1SpoilNothing(t *testing.T) {
	for size := range 7 {
		b := text(size, size)
		p := one(b)
		m := model{{3, string(b), false}}
		for _, from := range []int{0, 1, -1, 8*size - 32, 8*size - 31, 8 * size, lowest, highest} {
			if p.Spoil(0, from, 0) {
				t.Errorf("Spoil of %d bytes from %d with no mask", size, from)
			}
			wantPost(t, p, m)
			if size > 3 {
				continue
			}
			for _, mask := range masks() {
				if p.Spoil(0, from, mask) {
					t.Errorf("Spoil of %d bytes from %d", size, from)
				}
				wantPost(t, p, m)
			}
		}
		if ok := p.Spoil(0, 0, full); ok != (size > 3) {
			t.Errorf("Spoil of %d bytes: %t", size, ok)
		}
	}
}

// P19.1: a packet that was spoilt once is not spoilt again: not with the same
// mask, nor with another, nor from another bit, nor after others went.
func TestP19_1SpoilTwice(t *testing.T) {
	p, m := filled(t, 5)
	for n, i := range []int{2, 0, 4, 1, 3} {
		if !p.Spoil(i, n, 1<<n) {
			t.Errorf("Spoil(%d)", i)
		}
		m, _ = m.spoil(i, n, 1<<n)
		wantPost(t, p, m)
		for _, mask := range masks() {
			for _, from := range []int{n, n + 1, 0, -1} {
				if p.Spoil(i, from, mask) || p.Spoil(i, from, 0) {
					t.Errorf("Spoil(%d) again, from %d, %08x", i, from, mask)
				}
			}
		}
		wantPost(t, p, m)
	}
	for len(m) > 1 {
		p.Take(0)
		m = m.without(0)
		for i := range m {
			if p.Spoil(i, 0, 1) {
				t.Errorf("Spoil(%d) again, after another was taken", i)
			}
		}
		wantPost(t, p, m)
	}
}

// P19.1: Spoil changes one packet, of whichever index, and none of the others;
// it is where it was, also in a full post.
func TestP19_1SpoilOne(t *testing.T) {
	for _, many := range []int{1, 2, 7, most - 1, most} {
		for _, i := range []int{0, 1, many / 2, many - 2, many - 1} {
			if i < 0 || i >= many {
				continue
			}
			p, m := filled(t, many)
			if !p.Spoil(i, 5, 0xc0ffee00) {
				t.Errorf("Spoil(%d) of %d", i, many)
			}
			m, _ = m.spoil(i, 5, 0xc0ffee00)
			wantPost(t, p, m)
		}
	}
}

// P19.1: where a spoilt packet was taken, the next one is not spoilt, nor is
// one that is sent afterwards with the same bytes.
func TestP19_1SpoilNext(t *testing.T) {
	var p post.Post
	b := text(9, 1)
	for range 5 {
		p.Send(3, b)
		wantBytes(t, &p, 0, b)
		if !p.Spoil(0, 11, full) {
			t.Fatal("Spoil of a packet that was sent again")
		}
		p.Send(3, b)
		p.Take(0)
		wantPost(t, &p, model{{3, string(b), false}})
		p.Take(0)
	}
}

// parcels returns the bytes of parcels: without bytes, with some and with all
// of them.
func parcels(t *testing.T) [][]byte {
	t.Helper()
	var l [][]byte
	for _, x := range []parcel.Parcel{
		{Many: 1}, {From: 15, Letter: full, Many: 1}, {From: 3, Letter: 4, Many: 1, Bytes: []byte("a")}, {From: 3, Letter: 4, Many: 1, Bytes: make([]byte, 7)},
		{From: 1, Letter: 2, Many: 2, Bytes: text(48, 1)}, {From: 1, Letter: 2, Part: 1, Many: 2, Bytes: text(31, 2)},
		{From: 9, Letter: 1 << 31, Part: 99, Many: 100, Bytes: bytes.Repeat([]byte{255}, 48)},
	} {
		b, e := x.Put()
		if e != api.OK {
			t.Fatalf("Put of %v: error %d", x, e)
		}
		l = append(l, b)
	}
	return l
}

// P8: a parcel that was spoilt is not one any more, from whichever bit and with
// whichever mask, nor is its copy; all others are.
func TestP8Spoilt(t *testing.T) {
	l := parcels(t)
	for _, b := range l {
		var p post.Post
		for from := range 8*len(b) - 31 {
			for _, mask := range masks() {
				p.Send(1, b)
				p.Copy(0)
				if !p.Spoil(0, from, mask) || !p.Copy(0) {
					t.Fatal("Spoil")
				}
				for _, spoilt := range []bool{true, false, true} {
					f, _ := p.Take(0)
					if _, e := parcel.Take(f.Bytes); spoilt != (e == api.ErrSum) || spoilt != (e != api.OK) || spoilt != f.Spoilt {
						t.Fatalf("% x from %d, %08x: % x, error %d, spoilt: %t", b, from, mask, f.Bytes, e, f.Spoilt)
					}
				}
			}
		}
	}
}

// P8: of the packets of a message any are spoilt: those have no effect, all
// others have; the message is there when the spoilt ones come again.
func TestP8Message(t *testing.T) {
	message := text(480, 1)
	l, _ := parcel.Cut(2, 7, message)
	for which := range 1 << len(l) {
		var p post.Post
		var table parcel.Table
		var again [][]byte
		for i, x := range l {
			b, _ := x.Put()
			p.Send(0, b)
			if which>>i&1 == 1 {
				p.Spoil(i, which*i, uint32(which+i))
				again = append(again, b)
			}
		}
		b, ok := arrived(t, &p, &table)
		if which > 0 {
			if ok || table.Len() != min(1, len(l)-len(again)) {
				t.Fatalf("%d spoilt: % x, %t, %d incomplete", len(again), b, ok, table.Len())
			}
			for _, b := range again {
				p.Send(0, b)
			}
			b, ok = arrived(t, &p, &table)
		}
		if !ok || !bytes.Equal(b, message) {
			t.Fatalf("% x, %t", b, ok)
		}
	}
}

// arrived takes all packets, checks that those that are not spoilt are parcels,
// and returns the message that they make complete, if any.
func arrived(t *testing.T, p *post.Post, table *parcel.Table) ([]byte, bool) {
	t.Helper()
	var message []byte
	complete := false
	for p.Len() > 0 {
		f, _ := p.Take(0)
		x, e := parcel.Take(f.Bytes)
		if f.Spoilt != (e != api.OK) {
			t.Fatalf("% x: error %d, spoilt: %t", f.Bytes, e, f.Spoilt)
		}
		if b, ok := table.Put(x); ok {
			message, complete = b, true
		}
	}
	return message, complete
}
