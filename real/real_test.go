package real_test

import (
	"math"
	"math/big"
	"math/bits"
	"testing"

	"prompter/real"
)

// nan is what the chapter says that the Bits of any NaN are.
const nan = 0x7ff8000000000000

// Bits of floats that no constant of the language is.
const (
	minusZero = 0x8000000000000000
	inf       = 0x7ff0000000000000
	minusInf  = 0xfff0000000000000
)

// nans are bits of all kinds of NaN: quiet and signalling ones, with both
// signs, among them the machine's own and the library's.
var nans = []uint64{
	nan, nan + 1, nan + 1<<50, nan | 0x0007ffffffffffff,
	0xfff8000000000000, 0xfff8000000000001, 0xffffffffffffffff,
	0x7ff0000000000001, 0x7ff4000000000000, 0x7ff7ffffffffffff,
	0xfff0000000000001, 0xfff4000000000000, 0xfff7ffffffffffff,
}

// numbers are bits of floats that are numbers, or infinities.
func numbers() []uint64 {
	list := []uint64{0, inf}
	for _, f := range []float64{
		1, 2, 3, 10, 0.5, 0.1, 1.0 / 3, 2.5, 1e-9, 1e300, 1e-300, math.Pi,
		math.MaxFloat64, math.MaxFloat64 / 2, math.Sqrt2, 1 << 31, 1<<31 - 1, 1<<31 - 0.5, 1 << 53, 1<<53 + 2,
		math.SmallestNonzeroFloat64, 2 * math.SmallestNonzeroFloat64, 3 * math.SmallestNonzeroFloat64,
	} {
		n := math.Float64bits(f)
		list = append(list, n, n+1)
	}
	list = append(list,
		0x000fffffffffffff, // the greatest one that is not normal
		0x0010000000000000, // the smallest normal one
		0x7fefffffffffffff, // the greatest one
		0x3ca0000000000000, // 2^-53, half of what follows 1
		0x1ff0000000000000, // squares of this and of the next are near the smallest normal one
		0x2000000000000000,
	)
	seed := uint64(1)
	for range 20 {
		seed = seed*6364136223846793005 + 1442695040888963407
		n := (seed ^ seed>>29) &^ minusZero
		if n > inf {
			n -= 1 << 62
		}
		list = append(list, n)
	}
	for _, n := range list {
		list = append(list, n|minusZero)
	}
	return list
}

// samples are bits of floats of all sorts.
func samples() []uint64 {
	return append(numbers(), nans...)
}

func float(n uint64) float64 { return math.Float64frombits(n) }

// isNaN is the document's word.
func isNaN(f float64) bool { return f != f }

// isNaNBits tells the same by what the bits are.
func isNaNBits(n uint64) bool { return n&inf == inf && n<<12 != 0 }

// canonical is what the Bits of the float with the bits n are.
func canonical(n uint64) uint64 {
	if isNaNBits(n) {
		return nan
	}
	return n
}

// edges are bits in whose neighbourhood the sort of float changes.
func edges() []uint64 {
	list := samples()
	for exponent := range uint64(2048) {
		for _, fraction := range []uint64{0, 1, 1 << 50, 1<<51 - 1, 1 << 51, 1<<51 + 1, 1<<52 - 1} {
			n := exponent<<52 | fraction
			list = append(list, n, n|minusZero)
		}
	}
	for i := range 64 {
		list = append(list, 1<<i, 1<<i-1, ^uint64(1<<i), inf|1<<i, inf^1<<i, nan|1<<i, nan^1<<i)
	}
	return list
}

func TestP3_1BitsKnown(t *testing.T) {
	zero, one, three := 0.0, 1.0, 3.0
	for _, c := range []struct {
		f    float64
		want uint64
	}{
		{zero, 0},
		{math.Copysign(0, -1), minusZero},
		{one, 0x3ff0000000000000},
		{-one, 0xbff0000000000000},
		{one / three, 0x3fd5555555555555},
		{math.Inf(1), inf},
		{math.Inf(-1), minusInf},
		{math.MaxFloat64, 0x7fefffffffffffff},
		{-math.MaxFloat64, 0xffefffffffffffff},
		{math.SmallestNonzeroFloat64, 1},
		{-math.SmallestNonzeroFloat64, minusZero | 1},
		{math.NaN(), nan},
		{zero / zero, nan},
		{math.Inf(1) - math.Inf(1), nan},
	} {
		if got := real.Bits(c.f); got != c.want {
			t.Errorf("Bits(%v): %016x, want %016x", c.f, got, c.want)
		}
	}
}

func TestP3_1Bits(t *testing.T) {
	for _, n := range edges() {
		if got := real.Bits(float(n)); got != canonical(n) {
			t.Errorf("Bits of the float with bits %016x: %016x, want %016x", n, got, canonical(n))
		}
	}
}

func TestP3_1BitsNaN(t *testing.T) {
	for _, n := range nans {
		if got := real.Bits(float(n)); got != nan {
			t.Errorf("Bits of the NaN with bits %016x: %016x", n, got)
		}
	}
}

func TestP3_1Of(t *testing.T) {
	for _, n := range edges() {
		f, ok := real.Of(n)
		if ok != (n == canonical(n)) {
			t.Errorf("Of(%016x): %v", n, ok)
		}
		if ok && (math.Float64bits(f) != n || real.Bits(f) != n) {
			t.Errorf("Of(%016x): the float with bits %016x", n, math.Float64bits(f))
		}
	}
}

// The bits of every NaN but one are no float's Bits; some NaN is returned
// with false, other than R3 says.
func TestP3_1OfNaN(t *testing.T) {
	for _, n := range nans {
		f, ok := real.Of(n)
		if !isNaN(f) || ok != (n == nan) {
			t.Errorf("Of(%016x): %v, %v", n, f, ok)
		}
	}
}

func TestP3_1Same(t *testing.T) {
	for _, a := range samples() {
		for _, b := range samples() {
			if got, want := real.Same(float(a), float(b)), canonical(a) == canonical(b); got != want {
				t.Errorf("Same of those with bits %016x and %016x: %v", a, b, got)
			}
		}
	}
}

func TestP3_1SameZeros(t *testing.T) {
	zero, minus := 0.0, math.Copysign(0, -1)
	if zero != minus || real.Same(zero, minus) || real.Same(minus, zero) {
		t.Error("0 and -0 are the Same") // the chapter's example
	}
	if !real.Same(zero, zero) || !real.Same(minus, minus) {
		t.Error("a zero is not the Same as itself")
	}
}

// results are known ones, as bits: special cases, and those at which rounding
// shows.
var results = []struct {
	name string
	f    func(a, b float64) float64
	a, b uint64
	want uint64
}{
	{"1 / 0", real.Div, 0x3ff0000000000000, 0, inf},
	{"1 / -0", real.Div, 0x3ff0000000000000, minusZero, minusInf}, // the chapter's example
	{"-1 / 0", real.Div, 0xbff0000000000000, 0, minusInf},
	{"-1 / -0", real.Div, 0xbff0000000000000, minusZero, inf},
	{"inf / 0", real.Div, inf, 0, inf},
	{"1 / inf", real.Div, 0x3ff0000000000000, inf, 0},
	{"1 / -inf", real.Div, 0x3ff0000000000000, minusInf, minusZero},
	{"0 / -1", real.Div, 0, 0xbff0000000000000, minusZero},
	{"0 / inf", real.Div, 0, inf, 0},
	{"1 / 3", real.Div, 0x3ff0000000000000, 0x4008000000000000, 0x3fd5555555555555},
	{"greatest / 0.5", real.Div, 0x7fefffffffffffff, 0x3fe0000000000000, inf},
	{"smallest / 2", real.Div, 1, 0x4000000000000000, 0},
	{"-smallest / 2", real.Div, minusZero | 1, 0x4000000000000000, minusZero},
	{"0 / 0", real.Div, 0, 0, nan},
	{"-0 / 0", real.Div, minusZero, 0, nan},
	{"inf / inf", real.Div, inf, inf, nan},
	{"inf / -inf", real.Div, inf, minusInf, nan},

	{"0 + 0", real.Add, 0, 0, 0},
	{"0 + -0", real.Add, 0, minusZero, 0},
	{"-0 + -0", real.Add, minusZero, minusZero, minusZero},
	{"1 + -1", real.Add, 0x3ff0000000000000, 0xbff0000000000000, 0},
	{"0.1 + 0.2", real.Add, 0x3fb999999999999a, 0x3fc999999999999a, 0x3fd3333333333334},
	{"1 + 2^-53", real.Add, 0x3ff0000000000000, 0x3ca0000000000000, 0x3ff0000000000000},
	{"next of 1 + 2^-53", real.Add, 0x3ff0000000000001, 0x3ca0000000000000, 0x3ff0000000000002},
	{"greatest + greatest", real.Add, 0x7fefffffffffffff, 0x7fefffffffffffff, inf},
	{"greatest + -inf", real.Add, 0x7fefffffffffffff, minusInf, minusInf},
	{"inf + inf", real.Add, inf, inf, inf},
	{"smallest + smallest", real.Add, 1, 1, 2},
	{"inf + -inf", real.Add, inf, minusInf, nan},
	{"-inf + inf", real.Add, minusInf, inf, nan},

	{"0 * -1", real.Mul, 0, 0xbff0000000000000, minusZero},
	{"-0 * -0", real.Mul, minusZero, minusZero, 0},
	{"0.1 * 0.1", real.Mul, 0x3fb999999999999a, 0x3fb999999999999a, 0x3f847ae147ae147c},
	{"greatest * -2", real.Mul, 0x7fefffffffffffff, 0xc000000000000000, minusInf},
	{"smallest * smallest", real.Mul, 1, 1, 0},
	{"smallest * -smallest", real.Mul, 1, minusZero | 1, minusZero},
	{"inf * -inf", real.Mul, inf, minusInf, minusInf},
	{"0 * inf", real.Mul, 0, inf, nan},
	{"inf * -0", real.Mul, inf, minusZero, nan},
}

func TestP3_1Results(t *testing.T) {
	for _, c := range results {
		if got := math.Float64bits(c.f(float(c.a), float(c.b))); got != c.want {
			t.Errorf("%s: bits %016x, want %016x", c.name, got, c.want)
		}
	}
}

// TestP3_1ResultsNaN tests results that are NaN since an argument is.
func TestP3_1ResultsNaN(t *testing.T) {
	for _, n := range nans {
		for _, m := range samples() {
			for i, f := range []func(a, b float64) float64{real.Add, real.Mul, real.Div} {
				one, other := math.Float64bits(f(float(n), float(m))), math.Float64bits(f(float(m), float(n)))
				if one != nan || other != nan {
					t.Errorf("operation %d of those with bits %016x and %016x: bits %016x, turned %016x", i, n, m, one, other)
				}
			}
		}
	}
}

// finite reports whether f has a rational number.
func finite(f float64) bool { return !isNaN(f) && !math.IsInf(f, 0) }

// rational returns the number of f, which is finite.
func rational(f float64) *big.Rat { return new(big.Rat).SetFloat64(f) }

// nearest returns the bits of the float that is nearest to an exact result;
// if that is 0, its sign is negative if minus is.
func nearest(r *big.Rat, minus bool) uint64 {
	if r.Sign() != 0 {
		f, _ := r.Float64()
		return math.Float64bits(f)
	}
	if minus {
		return minusZero
	}
	return 0
}

// TestP3_1Rounded compares results with those of exact arithmetic, rounded
// once.
func TestP3_1Rounded(t *testing.T) {
	for _, n := range numbers() {
		for _, m := range numbers() {
			a, b := float(n), float(m)
			if !finite(a) || !finite(b) {
				continue
			}
			x, y := rational(a), rational(b)
			unlike := math.Signbit(a) != math.Signbit(b)
			minuses := math.Signbit(a) && math.Signbit(b)
			wantBits(t, "Add", a, b, real.Add(a, b), nearest(new(big.Rat).Add(x, y), minuses))
			wantBits(t, "Mul", a, b, real.Mul(a, b), nearest(new(big.Rat).Mul(x, y), unlike))
			if b != 0 {
				wantBits(t, "Div", a, b, real.Div(a, b), nearest(new(big.Rat).Quo(x, y), unlike))
			}
		}
	}
}

func wantBits(t *testing.T, name string, a, b, got float64, want uint64) {
	t.Helper()
	if math.Float64bits(got) != want {
		t.Errorf("%s(%v, %v): bits %016x, want %016x", name, a, b, math.Float64bits(got), want)
	}
}

func TestP3_1WholeKnown(t *testing.T) {
	zero := 0.0
	for _, c := range []struct {
		f    float64
		want int64
	}{
		{0, 0}, {-zero, 0}, {math.Copysign(0, -1), 0},
		{1, 1}, {-1, -1}, {65535, 65535}, {-40000, -40000},
		{0.1, 0}, {0.5, 0}, {0.9999999999999999, 0}, {-0.1, 0}, {-0.5, 0}, {-0.9999999999999999, 0},
		{1.5, 1}, {2.5, 2}, {2.999999, 2}, {-1.5, -1}, {-2.5, -2}, {-2.999999, -2},
		{math.SmallestNonzeroFloat64, 0}, {-math.SmallestNonzeroFloat64, 0},
		{1<<31 - 2, 1<<31 - 2}, {1<<31 - 1, 1<<31 - 1}, {1<<31 - 0.5, 1<<31 - 1}, {math.Nextafter(1<<31, 0), 1<<31 - 1},
		{1 << 31, 1 << 31}, {math.Nextafter(1<<31, 1<<32), 1 << 31}, {1<<31 + 0.5, 1 << 31}, {1<<31 + 1, 1 << 31},
		{-1<<31 + 1, -1<<31 + 1}, {-1<<31 + 0.5, -1<<31 + 1}, {math.Nextafter(-1<<31, 0), -1<<31 + 1},
		{-1 << 31, -1 << 31}, {math.Nextafter(-1<<31, -1<<32), -1 << 31}, {-1<<31 - 0.5, -1 << 31}, {-1<<31 - 1, -1 << 31},
		{1 << 32, 1 << 31}, {-1 << 32, -1 << 31},
		{math.Nextafter(1<<63, 0), 1 << 31}, {1 << 63, 1 << 31}, {-1 << 63, -1 << 31}, {math.Nextafter(-1<<63, -1<<64), -1 << 31},
		{1 << 64, 1 << 31}, {-1 << 64, -1 << 31},
		{math.MaxFloat64, 1 << 31}, {-math.MaxFloat64, -1 << 31},
		{math.Inf(1), 1 << 31}, {math.Inf(-1), -1 << 31},
	} {
		if got := real.Whole(c.f); got != c.want {
			t.Errorf("Whole(%v): %d, want %d", c.f, got, c.want)
		}
	}
}

func TestP3_1WholeNaN(t *testing.T) {
	for _, n := range nans {
		if got := real.Whole(float(n)); got != 0 {
			t.Errorf("Whole of the NaN with bits %016x: %d", n, got)
		}
	}
}

// TestP3_1Whole compares results with those of exact arithmetic.
func TestP3_1Whole(t *testing.T) {
	most, least := big.NewInt(1<<31), big.NewInt(-1<<31)
	for _, n := range edges() {
		f := float(n)
		if !finite(f) {
			continue
		}
		r := rational(f)
		want := new(big.Int).Quo(r.Num(), r.Denom())
		if want.Cmp(most) > 0 {
			want = most
		}
		if want.Cmp(least) < 0 {
			want = least
		}
		if got := real.Whole(f); got != want.Int64() {
			t.Errorf("Whole(%v): %d, want %d", f, got, want)
		}
	}
}

func TestP1NoPanic(t *testing.T) {
	for _, n := range samples() {
		real.Of(n)
		real.Bits(float(n))
		real.Whole(float(n))
		for _, m := range samples() {
			a, b := float(n), float(m)
			real.Same(a, b)
			real.Add(a, b)
			real.Mul(a, b)
			real.Div(a, b)
		}
	}
}

// The functions of this layer have no errors, lists or objects: R2, R4, R5, R6
// and R7 ask nothing of them. R3 is set aside by the chapter, see
// TestP3_1OfNaN.

func TestR1Int(t *testing.T) {
	if bits.UintSize != 64 {
		t.Errorf("int has %d bits", bits.UintSize)
	}
}

func TestR8Repeatable(t *testing.T) {
	all := func(n, m uint64) [7]uint64 {
		a, b := float(n), float(m)
		f, ok := real.Of(n)
		list := [7]uint64{real.Bits(a), math.Float64bits(f), 0, math.Float64bits(real.Add(a, b)),
			math.Float64bits(real.Mul(a, b)), math.Float64bits(real.Div(a, b)), uint64(real.Whole(a))}
		if ok {
			list[2] = 1
		}
		if real.Same(a, b) {
			list[2] += 2
		}
		return list
	}
	for _, n := range samples() {
		for _, m := range samples() {
			first := all(n, m)
			all(m, n)
			if all(n, m) != first {
				t.Errorf("bits %016x and %016x: other results the second time", n, m)
			}
		}
	}
}

// TestR8NotFused tests that a sum with a product depends on nothing but the
// product, rounded: the square of a is c, rounded, and a fused sum would be
// 2^-54. It can only fail where the compiler fuses (GOAMD64=v3, arm64).
func TestR8NotFused(t *testing.T) {
	for _, n := range []uint64{0x3ff0000002000000, 0xbff0000002000000} {
		a, c := float(n), float(0x3ff0000004000000)
		if got := real.Add(real.Mul(a, a), -c); got != 0 {
			t.Errorf("Add of a Mul: %v", got)
		}
		if got := real.Add(-c, a*a); got != 0 {
			t.Errorf("Add of a product: %v", got)
		}
		if got := real.Mul(a, a) - c; got != 0 {
			t.Errorf("a sum with a Mul: %v", got)
		}
	}
}
