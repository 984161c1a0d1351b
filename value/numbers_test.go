package value_test

import (
	"math"
	"slices"
	"strings"
	"testing"

	"prompter/kind"
	"prompter/value"
)

// wantFlat checks the numbers of a value, and each number of first ones.
func wantFlat(t *testing.T, x kind.Type, v value.Value, want ...int64) {
	t.Helper()
	for _, n := range []int{math.MinInt, -1, 0, 1, 2, 3, len(want) - 1, len(want), len(want) + 1, 64, math.MaxInt} {
		first := want[:max(0, min(n, len(want)))]
		if got := value.Flat(x, v, n); !slices.Equal(got, first) {
			t.Errorf("Flat(%v, %v, %d): %v, want %v", x, v, n, got, first)
		}
	}
}

func TestP8_2Flat(t *testing.T) {
	wantFlat(t, plain(kind.Bool), num(1), 1)
	wantFlat(t, plain(kind.Bool), num(0), 0)
	wantFlat(t, plain(kind.Card), num(65535), 65535)
	wantFlat(t, plain(kind.Long), num(-1<<31), -1<<31)
	wantFlat(t, plain(kind.Long), num(1<<31-1), 1<<31-1)
	wantFlat(t, enum(12), num(11), 11)
	for f, n := range map[float64]int64{0: 0, 2.9: 2, -2.9: -2, 1e300: 1 << 31, -1e300: -1 << 31, math.Inf(1): 1 << 31, math.Inf(-1): -1 << 31, 1<<31 - 0.5: 1<<31 - 1} {
		wantFlat(t, plain(kind.Real), float(f), n)
	}
	wantFlat(t, plain(kind.Real), float(math.NaN()), 0)
	wantFlat(t, plain(kind.Real), float(negativeZero), 0)
	wantFlat(t, text(9), str(""), 0)
	wantFlat(t, text(9), str("aé"), 3)
	wantFlat(t, text(60), str(strings.Repeat("z", 60)), 60)
	wantFlat(t, seq(9, plain(kind.Card)), list(), 0)
	wantFlat(t, seq(9, plain(kind.Card)), list(num(5), num(7)), 2, 5, 7)
	wantFlat(t, seq(60, plain(kind.Bool)), list(times(60, num(1))...), append([]int64{60}, times[int64](60, 1)...)...)
	wantFlat(t, record(plain(kind.Card), plain(kind.Real), text(3)), list(num(4), float(-3.5), str("ab")), 4, -3, 2)
	wantFlat(t, record(seq(1, plain(kind.Bool))), list(list()), 0)
	wantFlat(t, choice(plain(kind.Bool), text(5)), pick(1, str("abc")), 1, 3)
	wantFlat(t, choice(plain(kind.Bool), record(plain(kind.Card), plain(kind.Card))), pick(0, num(1)), 0, 1)
	wantFlat(t, choice(plain(kind.Bool), record(plain(kind.Card), plain(kind.Card))), pick(1, list(num(8), num(9))), 1, 8, 9)
	wantFlat(t, record(enum(3), seq(3, choice(plain(kind.Long), seq(2, text(4)))), plain(kind.Bool)),
		list(num(2), list(pick(1, list(str("abcd"), str(""))), pick(0, num(-6)), pick(1, list())), num(1)),
		2, 3, 1, 2, 4, 0, 0, -6, 1, 0, 1)
}

// What is not a value of the type has no numbers.
func TestP8_2FlatWrong(t *testing.T) {
	for _, c := range []struct {
		x kind.Type
		v value.Value
	}{
		{plain(kind.Bool), num(2)}, {plain(kind.Card), num(-1)}, {plain(kind.Long), num(1 << 31)}, {plain(kind.Real), num(1)}, {text(2), str("abc")}, {enum(2), num(2)},
		{seq(2, plain(kind.Bool)), list(num(0), num(2))}, {seq(1, plain(kind.Bool)), list(num(0), num(1))},
		{record(plain(kind.Card), plain(kind.Bool)), list(num(7), num(2))}, {record(plain(kind.Card), plain(kind.Bool)), list(num(7))}, {record(plain(kind.Card)), num(7)},
		{choice(plain(kind.Card), plain(kind.Bool)), num(1)}, {choice(plain(kind.Card), plain(kind.Bool)), pick(2, num(1))}, {choice(plain(kind.Card), plain(kind.Bool)), pick(1, num(2))},
		{plain(kind.Bool), value.Value{N: 1, F: negativeZero}}, {plain(kind.Kinds), num(1)}, {plain(255), value.Value{}},
	} {
		wantFlat(t, c.x, c.v)
	}
}

func wantBuild(t *testing.T, x kind.Type, l []int64, want value.Value) {
	t.Helper()
	got := value.Build(x, l)
	if !value.Same(got, want) {
		t.Errorf("Build(%v, %v): %v, want %v", x, l, got, want)
	}
	wantCheck(t, x, got, true)
}

// One number for each kind, on both sides of each limit.
func TestP8_2BuildOne(t *testing.T) {
	for _, c := range []struct {
		x       kind.Type
		numbers []int64
		n       []int64
	}{
		{plain(kind.Bool), []int64{0, 1, 2, 3, -1, -2, most, fewest}, []int64{0, 1, 0, 1, 1, 0, 1, 0}},
		{plain(kind.Card), []int64{0, 65535, 65536, 65537, -1, -65536, most, fewest, fewest + 5}, []int64{0, 65535, 0, 1, 65535, 0, 65535, 0, 5}},
		{plain(kind.Long), []int64{0, 5, 1<<31 - 1, 1 << 31, 1<<32 - 1, 1 << 32, 1<<32 + 7, -1, -1 << 31, -1<<31 - 1, -1 << 32, most, fewest}, []int64{0, 5, 1<<31 - 1, -1 << 31, -1, 0, 7, -1, -1 << 31, 1<<31 - 1, 0, -1, 0}},
		{enum(1), []int64{0, 1, -1, most}, []int64{0, 0, 0, 0}},
		{enum(12), []int64{0, 11, 12, 25, -1, -12, -13, most, fewest}, []int64{0, 11, 0, 1, 11, 0, 11, most % 12, 4}},
		{enum(5), []int64{4, 5, -4, -6, fewest}, []int64{4, 0, 1, 4, 2}},
	} {
		for i, number := range c.numbers {
			wantBuild(t, c.x, []int64{number}, num(c.n[i]))
			wantBuild(t, c.x, []int64{number, 99}, num(c.n[i]))
		}
	}
	for number, f := range map[int64]float64{0: 0, 1: 1, -7: -7, 1 << 53: 1 << 53, 1<<53 + 1: 1 << 53, 1<<53 + 3: 1<<53 + 4, most: 1 << 63, fewest: -1 << 63} {
		wantBuild(t, plain(kind.Real), []int64{number}, float(f))
	}
	alphabet := "abcdefghijklmnopqrstuvwxyz"
	all := alphabet + alphabet + alphabet
	for most := 1; most <= 60; most++ {
		for number := -130; number <= 130; number++ {
			length := ((number % (most + 1)) + most + 1) % (most + 1)
			wantBuild(t, text(most), []int64{int64(number)}, str(all[:length]))
		}
	}
	wantBuild(t, text(1), []int64{math.MinInt64}, str(""))
	wantBuild(t, text(2), []int64{math.MinInt64}, str("a"))
}

// Numbers are taken in order and start over; without any, they are 0.
func TestP8_2BuildMany(t *testing.T) {
	card, bool := plain(kind.Card), plain(kind.Bool)
	wantBuild(t, record(card, card), []int64{7}, list(num(7), num(7)))
	wantBuild(t, record(card, card, card), []int64{7, 8}, list(num(7), num(8), num(7)))
	wantBuild(t, record(card, card, card), []int64{7, 8, 9, 10}, list(num(7), num(8), num(9)))
	wantBuild(t, record(plain(kind.Long), text(5), plain(kind.Real), enum(3)), []int64{-4, 8, -5, 7}, list(num(-4), str("ab"), float(-5), num(1)))
	wantBuild(t, seq(9, card), []int64{2, 5, 6}, list(num(5), num(6)))
	wantBuild(t, seq(9, card), []int64{4, 5, 6}, list())
	wantBuild(t, seq(9, card), []int64{7, 5, 6}, list(num(5), num(6), num(7)))
	wantBuild(t, seq(9, card), []int64{-1, 5, 6}, list(num(5), num(6), num(65535)))
	wantBuild(t, seq(9, card), []int64{-4, 5}, list())
	wantBuild(t, seq(9, card), []int64{fewest + 1, 5}, list(num(5)))
	wantBuild(t, seq(1, card), []int64{3, 5, 6}, list(num(5)))
	wantBuild(t, seq(2, card), []int64{3, 5, 6}, list(num(5), num(6)))
	wantBuild(t, seq(2, card), []int64{1, 5, 6}, list(num(5)))
	wantBuild(t, seq(60, card), []int64{60, 5}, list())
	wantBuild(t, seq(3, seq(2, bool)), []int64{3, 2, 0, 1, 1}, list(list(num(0), num(1)), list(num(1)), list(num(0), num(1))))
	wantBuild(t, choice(card, text(3)), []int64{0, 6}, pick(0, num(6)))
	wantBuild(t, choice(card, text(3)), []int64{1, 6}, pick(1, str("ab")))
	wantBuild(t, choice(card, text(3)), []int64{5}, pick(1, str("a")))
	wantBuild(t, choice(card, text(3), bool), []int64{-1, 3}, pick(2, num(1)))
	wantBuild(t, choice(card, text(3), bool), []int64{fewest, 3}, pick(1, str("abc")))
	wantBuild(t, record(choice(card, seq(5, card)), card), []int64{1, 2, 3, 4, 5}, list(pick(1, list(num(3), num(4))), num(5)))
	for _, none := range [][]int64{nil, {}, {0}, {0, 0, 0}} {
		wantBuild(t, record(bool, card, plain(kind.Long), plain(kind.Real), text(4), enum(4), seq(4, card), choice(card, bool)), none,
			list(num(0), num(0), num(0), float(0), str(""), num(0), list(), pick(0, num(0))))
	}
}

// begun returns a type of n values, which need no numbers but zeros, such a
// value, and how many zeros.
func begun(n int) (kind.Type, value.Value, int) {
	x, v, zeros := kind.Type{}, value.Value{}, 0
	for n--; n > 0; n -= 12 {
		inside := min(n, 12) - 1
		x.Of = append(x.Of, record(times(inside, plain(kind.Bool))...))
		v.Of = append(v.Of, list(times(inside, num(0))...))
		zeros += inside
		if inside == 0 {
			x.Of[len(x.Of)-1] = plain(kind.Bool)
			zeros++
		}
	}
	return record(x.Of...), v, zeros
}

// A sequence that is the 101st value may have elements; a later one has none,
// and takes no number. Of one that has some, all are built.
func TestP8_2BuildBegun(t *testing.T) {
	card := plain(kind.Card)
	for n := 80; n < 120; n++ {
		before, none, zeros := begun(n) // and the record and the sequence: n + 2
		numbers := append(make([]int64, zeros), 3, 7, 8, 9, 10, 11)
		want := list(none, list(num(7), num(8), num(9)), num(10))
		if n+2 > 100 {
			want = list(none, list(), num(3))
		}
		wantBuild(t, record(before, seq(5, card), card), numbers, want)
	}
	// The elements count, too. The innermost sequences here are the values 3,
	// 45 and 87; the last one's elements are begun up to the 126th value.
	x := seq(3, record(seq(3, record(times(12, card)...)), card))
	numbers := append([]int64{3, 3}, times[int64](36, 1)...)
	numbers = append(numbers, 5)
	numbers = append(numbers, 3)
	numbers = append(numbers, times[int64](36, 2)...)
	numbers = append(numbers, 6, 3)
	numbers = append(numbers, times[int64](36, 4)...)
	numbers = append(numbers, 9)
	row := func(n int64) value.Value { return list(times(3, list(times(12, num(n))...))...) }
	wantBuild(t, x, numbers, list(list(row(1), num(5)), list(row(2), num(6)), list(row(4), num(9))))
	y := record(x, seq(3, card), card)
	numbers = append(numbers, 8)
	wantBuild(t, y, numbers, list(list(list(row(1), num(5)), list(row(2), num(6)), list(row(4), num(9))), list(), num(8)))
}

// A sequence counts, though it has no elements, and so does each kind of
// value.
func TestP8_2BuildCounts(t *testing.T) {
	card := plain(kind.Card)
	for _, c := range []struct {
		x     kind.Type
		v     value.Value
		n     int // values in it
		zeros int
	}{
		{plain(kind.Bool), num(0), 1, 1}, {card, num(0), 1, 1}, {plain(kind.Long), num(0), 1, 1}, {plain(kind.Real), float(0), 1, 1}, {text(3), str(""), 1, 1}, {enum(3), num(0), 1, 1},
		{seq(3, card), list(), 1, 1}, {record(card), list(num(0)), 2, 1}, {choice(card), pick(0, num(0)), 2, 2}, {choice(record(card, card)), pick(0, list(num(0), num(0))), 4, 3},
	} {
		for n := 60; n < 110; n++ {
			before, none, zeros := begun(n)
			x := record(before, c.x, c.x, c.x, seq(5, card), card)
			numbers := append(make([]int64, zeros+3*c.zeros), 1, 7, 9)
			want := list(none, c.v, c.v, c.v, list(num(7)), num(9))
			if c.x.Kind == kind.Seq && n+4 > 100 { // the last of three takes no number any more
				continue
			}
			if 1+n+3*c.n+1 > 100 {
				want = list(none, c.v, c.v, c.v, list(), num(1))
			}
			wantBuild(t, x, numbers, want)
		}
	}
}

// Types that are right but for their depth: up to 20 levels they have values.
func TestP8_2BuildDeep(t *testing.T) {
	for levels := range 20 {
		x, v := nested(levels, plain(kind.Card), num(1))
		wantBuild(t, x, []int64{1}, v)
		y, w := plain(kind.Card), num(65535)
		for range levels {
			y, w = choice(plain(kind.Bool), record(plain(kind.Long), y)), pick(1, list(num(-1), w))
			if levels > 9 {
				break
			}
		}
		wantBuild(t, y, []int64{-1}, w)
	}
}
