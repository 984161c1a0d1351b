package parcel_test

import (
	"bytes"
	"math"
	"math/bits"
	"slices"
	"testing"

	"prompter/api"
	"prompter/parcel"
)

// P18.1, P8: the bytes of a parcel, cut at each place: none of what is left has
// its sum behind it, but for what a sum was put behind.
func TestP18_1Short(t *testing.T) {
	wantNoParcel(t, nil, true)
	wantNoParcel(t, []byte{}, true)
	for _, p := range samples() {
		b := encoded(p)
		for n := range b {
			wantAsTaken(t, b[:n])
			wantAsTaken(t, b[n+1:])
		}
		for n := range plain(p) {
			wantNoParcel(t, summed(plain(p)[:n]), false)
		}
	}
	for n := range 4 {
		wantNoParcel(t, make([]byte, n), true)
		wantNoParcel(t, bytes.Repeat([]byte{255}, n), true)
	}
	wantNoParcel(t, make([]byte, 4), false) // the sum of no bytes is 0
}

// P18.1, P8: the bytes of a parcel, with more behind them, behind the sum and
// before it.
func TestP18_1Rest(t *testing.T) {
	for _, p := range samples() {
		b := encoded(p)
		for n := range 256 {
			wantNoParcel(t, append(slices.Clone(b), byte(n)), !rightly(append(slices.Clone(b), byte(n))))
			wantNoParcel(t, summed(append(plain(p), byte(n))), false)
		}
		for n := 1; n < 60; n++ {
			wantNoParcel(t, append(slices.Clone(b), make([]byte, n)...), !rightly(append(slices.Clone(b), make([]byte, n)...)))
			wantNoParcel(t, summed(append(plain(p), make([]byte, n)...)), false)
		}
		wantAsTaken(t, slices.Concat(b, b))
		wantNoParcel(t, summed(b), false)
		wantNoParcel(t, summed(slices.Concat(plain(p), plain(p))), false)
		wantNoParcel(t, summed(append(plain(p), make([]byte, 1<<16)...)), false)
	}
}

// P18.1, P8: each byte of a parcel changed to each other one: the sum is wrong.
func TestP18_1Changed(t *testing.T) {
	for _, p := range samples() {
		b := encoded(p)
		for at := range b {
			for n := 1; n < 256; n++ {
				b[at] ^= byte(n)
				wantNoParcel(t, b, true)
				b[at] ^= byte(n)
			}
		}
	}
}

// P18.1, P8: bits of a parcel that lie within 32 consecutive ones turned, at
// each place: the sum is wrong.
func TestP18_1Spoilt(t *testing.T) {
	masks := []uint32{1, 1 << 31, math.MaxUint32, 0x80000001, 0x04c11db7, 0xedb88320, 0x82608edb, 0x55555555, 0xfffffffe, 0x7fffffff}
	for n := range uint32(40) {
		masks = append(masks, 1<<(n%32), n*0x9e3779b9+1)
	}
	for _, p := range samples() {
		b := encoded(p)
		for at := range 8*len(b) - 31 {
			for _, mask := range masks {
				turn(b, at, mask)
				wantNoParcel(t, b, true)
				turn(b, at, mask)
			}
		}
	}
}

// turn turns the bits of a mask, from bit at on.
func turn(b []byte, at int, mask uint32) {
	for ; mask != 0; mask <<= 1 {
		zeros := bits.LeadingZeros32(mask)
		at, mask = at+zeros, mask<<zeros
		b[at/8] ^= 0x80 >> (at % 8)
		at++
	}
}

// P18.1, P8: sums that are not those of the bytes.
func TestP18_1NoSum(t *testing.T) {
	for _, p := range samples() {
		head, b := plain(p), encoded(p)
		sum := b[len(head):]
		for _, wrong := range [][]byte{
			make([]byte, 4), bytes.Repeat([]byte{255}, 4), {sum[3], sum[2], sum[1], sum[0]}, {sum[1], sum[0], sum[3], sum[2]},
			{^sum[0], ^sum[1], ^sum[2], ^sum[3]}, sum[:3], sum[1:],
		} {
			wantNoParcel(t, slices.Concat(head, wrong), true)
		}
		wantNoParcel(t, head, true)
		wantNoParcel(t, slices.Concat(sum, head), true)
	}
}

// P18.1: a wrong sum is told before anything else that is wrong.
func TestP18_1SumFirst(t *testing.T) {
	for _, b := range [][]byte{
		words(16, 0, 0, 0, 1, 0), words(0, 0, 0, 1, 1, 0), words(0, 0, 0, 0, 0, 0), words(0, 0, 0, 0, 101, 0),
		words(0, 0, 0, 0, 1, 49), words(0, 0, 0, 0, 1, 65535), words(0, 0, 0, 0, 1), words(0, 0, 0, 0, 1, 0, 0), words(0), nil,
	} {
		b = summed(b)
		wantNoParcel(t, b, false)
		for at := range b {
			b[at] ^= 0x10
			wantNoParcel(t, b, true)
			b[at] ^= 0x10
		}
	}
}

// P18.1, P8: Words in place of From, Part and Many, with a right sum.
func TestP18_1NoNumbers(t *testing.T) {
	for n := range math.MaxUint16 + 1 {
		for _, p := range []parcel.Parcel{part(3, 4, 0, 1, nil), part(3, 4, 1, 3, text(size, 1)), part(3, 4, 99, 100, text(5, 1))} {
			for at := 0; at < 12; at += 2 {
				wantAsTaken(t, summed(slices.Replace(plain(p), at, at+2, words(n)...)))
			}
		}
	}
	for _, n := range []int{16, 255, 256, 257, 65535} {
		wantNoParcel(t, summed(plain(part(n, 4, 0, 1, nil))), false)
		wantNoParcel(t, summed(plain(part(3, 4, n, 1, nil))), false)
		wantNoParcel(t, summed(plain(part(3, 4, 100+n, 100+n+1, nil))), false)
	}
	wantNoParcel(t, summed(plain(part(3, 4, 0, 0, nil))), false)
	wantNoParcel(t, summed(plain(part(3, 4, 100, 100, text(1, 0)))), false)
	wantNoParcel(t, summed(plain(part(3, 4, 100, 101, text(1, 0)))), false)
}

// P18.1, P8: each number of bytes for each place of a message, with a right
// sum.
func TestP18_1NoSizes(t *testing.T) {
	for n := range 200 {
		for _, many := range []int{1, 2, 3, 99, 100, 101} {
			for _, i := range []int{0, 1, 2, many - 2, many - 1, many} {
				if i >= 0 {
					wantAsTaken(t, encoded(part(1, 2, i, many, text(n, 3))))
				}
			}
		}
	}
	for n := size + 1; n <= math.MaxUint16; n += 1 + n/50 {
		wantNoParcel(t, encoded(part(1, 2, 0, 1, text(n, 3))), false)
	}
}

// P18.1, P8: another byte than 0 behind an odd number of bytes, or none at all,
// with a right sum.
func TestP18_1NoForm(t *testing.T) {
	for n := 1; n < size; n += 2 {
		b := plain(part(1, 2, 0, 1, text(n, 4)))
		for c := range 255 {
			b[len(b)-1] = byte(c + 1)
			wantNoParcel(t, summed(b), false)
		}
		wantNoParcel(t, summed(b[:len(b)-1]), false)
	}
}

// P18.1: the bytes of each parcel are those of no other one.
func TestP18_1Apart(t *testing.T) {
	seen := map[string]parcel.Parcel{}
	for _, from := range []int{0, 1, 15} {
		for _, number := range []uint32{0, 1, 1 << 16, highest} {
			for _, many := range []int{1, 2, 3, 100} {
				for i := range many {
					for _, n := range []int{0, 1, 2, 47, 48} {
						for _, b := range [][]byte{make([]byte, n), text(n, 1)} {
							p := part(from, number, i, many, b)
							got, e := p.Put()
							if e != api.OK {
								continue
							}
							if other, ok := seen[string(got)]; ok && !same(p, other) {
								t.Errorf("% x: %v and %v", got, p, other)
							}
							seen[string(got)] = p
						}
					}
				}
			}
		}
	}
}
