package crc_test

import (
	"bytes"
	"hash/crc32"
	"math/bits"
	"testing"

	"prompter/crc"
)

// reference is the sum worked out another way: the library's is the same
// division, with the bits of each byte and of the sum in the other order.
func reference(b []byte) uint32 {
	turned := make([]byte, len(b))
	for i, c := range b {
		turned[i] = bits.Reverse8(c)
	}
	return bits.Reverse32(crc32.ChecksumIEEE(turned))
}

// noise returns n bytes without a visible pattern, others for each seed.
func noise(n int, seed uint64) []byte {
	b := make([]byte, n)
	for i := range b {
		seed = seed*6364136223846793005 + 1442695040888963407
		b[i] = byte(seed >> 56)
	}
	return b
}

// samples are lists of bytes of lengths from 0 on, plain and arbitrary.
func samples() [][]byte {
	list := [][]byte{nil, []byte("123456789"), []byte("a"), []byte("interface")}
	for n := range 70 {
		list = append(list, make([]byte, n), bytes.Repeat([]byte{0xff}, n), noise(n, 1), noise(n, 2))
	}
	return append(list, noise(4000, 3), noise(65536, 4))
}

// changed returns b with the bits of pattern turned, from bit at on; bits are
// counted from the most significant one of the first byte.
func changed(b []byte, at int, pattern uint32) []byte {
	c := bytes.Clone(b)
	for i := range 32 {
		if pattern<<i>>31 == 1 {
			c[(at+i)/8] ^= 0x80 >> ((at + i) % 8)
		}
	}
	return c
}

func TestP2_1SumKnown(t *testing.T) {
	for text, want := range map[string]uint32{
		"":                 0,
		"123456789":        0xfc891918, // the chapter's example
		"\x00":             0xb1f7404b,
		"\x00\x00\x00\x00": 0x38fb2284,
		"\xff":             0x000000ff, // the highest bits are 0 after its XOR: shifts alone
		"\xff\xff\xff\xff": 0xffffffff,
		"a":                0x19939b6b,
	} {
		if got := crc.Sum([]byte(text)); got != want {
			t.Errorf("Sum(%q): %08x, want %08x", text, got, want)
		}
	}
}

func TestP2_1SumEveryByte(t *testing.T) {
	for c := range 256 {
		for _, b := range [][]byte{{byte(c)}, {byte(c), 0x5a}, {0xa5, byte(c)}} {
			if got, want := crc.Sum(b), reference(b); got != want {
				t.Errorf("Sum(% x): %08x, want %08x", b, got, want)
			}
		}
	}
}

func TestP2_1Sum(t *testing.T) {
	for _, b := range samples() {
		if got, want := crc.Sum(b), reference(b); got != want {
			t.Errorf("Sum of %d bytes: %08x, want %08x", len(b), got, want)
		}
	}
}

func TestP2_1PutKnown(t *testing.T) {
	for text, want := range map[string]string{
		"":          "\x00\x00\x00\x00",
		"123456789": "123456789\xfc\x89\x19\x18",
		"\xff":      "\xff\x00\x00\x00\xff",
	} {
		if got := crc.Put([]byte(text)); string(got) != want {
			t.Errorf("Put(%q): % x, want % x", text, got, want)
		}
	}
}

func TestP2_1Put(t *testing.T) {
	for _, b := range samples() {
		sum := reference(b)
		want := append(bytes.Clone(b), byte(sum>>24), byte(sum>>16), byte(sum>>8), byte(sum))
		got := crc.Put(b)
		if !bytes.Equal(got, want) {
			t.Errorf("Put of %d bytes: %d bytes, want %d", len(b), len(got), len(want))
		}
		if !crc.Right(got) {
			t.Errorf("Put of %d bytes is not right", len(b))
		}
		if twice := crc.Put(got); !crc.Right(twice) {
			t.Errorf("Put of %d bytes, put again, is not right", len(b))
		}
	}
}

func TestP2_1RightShort(t *testing.T) {
	for n := range 4 {
		for _, b := range [][]byte{make([]byte, n), bytes.Repeat([]byte{0xff}, n), noise(n, 5)} {
			if crc.Right(b) {
				t.Errorf("Right(% x): true", b)
			}
		}
	}
	// Those before four bytes are none, of which the sum is 0.
	if !crc.Right(make([]byte, 4)) {
		t.Error("Right of the sum of no bytes: false")
	}
	if crc.Right([]byte{0xff, 0xff, 0xff, 0xff}) {
		t.Error("Right of a wrong sum of no bytes: true")
	}
}

func TestP2_1RightArbitrary(t *testing.T) {
	for _, b := range samples() {
		want := false
		if n := len(b) - 4; n >= 0 {
			s := b[n:]
			want = reference(b[:n]) == uint32(s[0])<<24|uint32(s[1])<<16|uint32(s[2])<<8|uint32(s[3])
		}
		if got := crc.Right(b); got != want {
			t.Errorf("Right of %d bytes: %v, want %v", len(b), got, want)
		}
	}
}

func TestP2_1RightOtherSums(t *testing.T) {
	for _, text := range []string{"a", "123456789", "interface"} {
		b := crc.Put([]byte(text))
		n := len(b)
		for what, wrong := range map[string][]byte{
			"the lowest byte of the sum first": append(b[:n-4:n-4], b[n-1], b[n-2], b[n-3], b[n-4]),
			"the sum turned":                   append(b[:n-4:n-4], ^b[n-4], ^b[n-3], ^b[n-2], ^b[n-1]),
			"the sum before the bytes":         append(b[n-4:n:n], b[:n-4]...),
			"a byte less":                      b[:n-1],
			"a byte more":                      append(b[:n:n], 0),
			"the sum alone":                    b[n-4:],
		} {
			if crc.Right(wrong) {
				t.Errorf("%q: Right with %s", text, what)
			}
		}
	}
}

// TestP2_1ByteChanged also tests what P8 needs of this layer.
func TestP2_1ByteChanged(t *testing.T) {
	for _, n := range []int{0, 1, 2, 9, 60} {
		b := crc.Put(noise(n, 6))
		for i := range b {
			for change := 1; change < 256; change++ {
				c := bytes.Clone(b)
				c[i] ^= byte(change)
				if crc.Right(c) {
					t.Errorf("%d bytes: Right with byte %d changed by %02x", n, i, change)
				}
			}
		}
	}
}

// patterns are changes of 1 to 32 consecutive bits: the highest bit alone, it
// with each other one, and runs, the greatest ones, the generator's bits and
// arbitrary ones.
func patterns() []uint32 {
	list := []uint32{1 << 31, 0x04c11db7 | 1<<31, 0x04c11db7 << 5, 0x82608edb, 0xedb88320, 0xfffffffe, 0xffffffff}
	for i := range 31 {
		list = append(list, 1<<31|1<<i, ^uint32(0)<<i, ^uint32(0)&^(1<<i))
	}
	for _, c := range noise(60, 7) {
		last := list[len(list)-1]
		list = append(list, last*2654435761+uint32(c)|1<<31)
	}
	return list
}

// TestP2_1BitsChanged also tests what P8 needs of this layer.
func TestP2_1BitsChanged(t *testing.T) {
	for _, n := range []int{0, 1, 3, 4, 9, 60} {
		for _, b := range [][]byte{crc.Put(noise(n, 8)), crc.Put(make([]byte, n))} {
			for at := range len(b) * 8 {
				for _, pattern := range patterns() {
					if at+32-bits.TrailingZeros32(pattern) > len(b)*8 {
						continue // beyond the end
					}
					if crc.Right(changed(b, at, pattern)) {
						t.Errorf("%d bytes: Right with %08x changed from bit %d on", n, pattern, at)
					}
				}
			}
		}
	}
}

func TestP1NoPanic(t *testing.T) {
	for _, b := range append(samples(), noise(1<<20, 9)) {
		crc.Sum(b)
		crc.Put(b)
		crc.Right(b)
	}
}

// The functions of this layer have neither errors nor objects, and no result
// stands beside Right's: R2, R3, R4 and R7 ask nothing of them.

func TestR1Int(t *testing.T) {
	if bits.UintSize != 64 {
		t.Errorf("int has %d bits", bits.UintSize)
	}
}

func TestR5Empty(t *testing.T) {
	for _, b := range [][]byte{nil, {}, make([]byte, 0, 8), []byte("abcd")[:0], []byte("abcd")[4:]} {
		if got := crc.Sum(b); got != 0 {
			t.Errorf("Sum of none: %08x", got)
		}
		if got := crc.Put(b); string(got) != "\x00\x00\x00\x00" {
			t.Errorf("Put of none: % x", got)
		}
		if crc.Right(b) {
			t.Error("Right of none: true")
		}
	}
}

func TestR6ArgumentsUnchanged(t *testing.T) {
	for _, b := range [][]byte{nil, []byte("a"), []byte("123456789"), crc.Put([]byte("123456789")), noise(48, 10)} {
		for spare := range 12 {
			whole := append(bytes.Clone(b), noise(spare, 11)...)
			before := bytes.Clone(whole)
			arg := whole[:len(b)]
			crc.Sum(arg)
			crc.Put(arg)
			crc.Right(arg)
			if !bytes.Equal(whole, before) {
				t.Errorf("% x with %d to spare: changed to % x", b, spare, whole)
			}
		}
	}
}

func TestR6ResultsNew(t *testing.T) {
	for _, text := range []string{"", "a", "123456789"} {
		arg := append(make([]byte, 0, 64), text...)
		first, second := crc.Put(arg), crc.Put(arg)
		want := bytes.Clone(first)
		clear(arg[:cap(arg)])
		if !bytes.Equal(first, want) {
			t.Errorf("%q: the result shares memory with the argument", text)
		}
		full := second[:cap(second)]
		for i := range full {
			full[i] ^= 0xff
		}
		if !bytes.Equal(first, want) {
			t.Errorf("%q: two results share memory", text)
		}
		if !bytes.Equal(arg[:cap(arg)], make([]byte, cap(arg))) {
			t.Errorf("%q: the argument shares memory with the result", text)
		}
	}
}

func TestR8Repeatable(t *testing.T) {
	for _, b := range samples() {
		sum, put, right := crc.Sum(b), crc.Put(b), crc.Right(b)
		crc.Put([]byte("something else"))
		if crc.Sum(b) != sum || !bytes.Equal(crc.Put(b), put) || crc.Right(b) != right {
			t.Errorf("%d bytes: another result the second time", len(b))
		}
	}
}
