package value_test

import (
	"math"
	"slices"
	"strings"
	"testing"

	"prompter/api"
	"prompter/kind"
	"prompter/value"
)

const fewest, most = math.MinInt64, math.MaxInt64

var negativeZero = math.Copysign(0, -1)

func plain(k kind.Kind) kind.Type      { return kind.Type{Kind: k} }
func text(most int) kind.Type          { return kind.Type{Kind: kind.Text, Most: most} }
func ref(name string) kind.Type        { return kind.Type{Kind: kind.Ref, Names: []string{name}} }
func seq(n int, x kind.Type) kind.Type { return kind.Type{Kind: kind.Seq, Most: n, Of: []kind.Type{x}} }
func enum(n int) kind.Type             { return kind.Type{Kind: kind.Enum, Names: names(n)} }
func record(of ...kind.Type) kind.Type {
	return kind.Type{Kind: kind.Record, Names: names(len(of)), Of: of}
}
func choice(of ...kind.Type) kind.Type {
	return kind.Type{Kind: kind.Choice, Names: names(len(of)), Of: of}
}

// names returns the names a, ab, abc and so on.
func names(n int) []string {
	var list []string
	for i := range n {
		list = append(list, "abcdefghijklmnopqrstuvwxyz"[:i%26+1])
	}
	return list
}

func times[T any](n int, x T) []T { return slices.Repeat([]T{x}, n) }

func num(n int64) value.Value            { return value.Value{N: n} }
func float(f float64) value.Value        { return value.Value{F: f} }
func str(s string) value.Value           { return value.Value{Text: s} }
func list(of ...value.Value) value.Value { return value.Value{Of: of} }
func pick(n int64, v value.Value) value.Value {
	return value.Value{N: n, Of: []value.Value{v}}
}

// nested returns x in so many sequences, one in another, and the value that is
// v in as many.
func nested(levels int, x kind.Type, v value.Value) (kind.Type, value.Value) {
	for range levels {
		x, v = seq(1, x), list(v)
	}
	return x, v
}

func wantCheck(t *testing.T, x kind.Type, v value.Value, right bool) {
	t.Helper()
	want := api.OK
	if !right {
		want = api.ErrArgs
	}
	if e := value.Check(x, v); e != want {
		t.Errorf("Check(%v, %v): error %d, want %d", x, v, e, want)
	}
}

// A kind's values and others, on both sides of each limit.
func TestP8_1Check(t *testing.T) {
	long60 := strings.Repeat("x", 60)
	for _, c := range []struct {
		x     kind.Type
		right []value.Value
		wrong []value.Value
	}{
		{plain(kind.Bool), []value.Value{num(0), num(1)}, []value.Value{num(-1), num(2), num(256), num(1 << 32), num(fewest), num(most)}},
		{plain(kind.Card), []value.Value{num(0), num(1), num(65535)}, []value.Value{num(-1), num(65536), num(1 << 32), num(fewest), num(most)}},
		{plain(kind.Long), []value.Value{num(0), num(-1), num(-1 << 31), num(1<<31 - 1)}, []value.Value{num(-1<<31 - 1), num(1 << 31), num(1 << 32), num(fewest), num(most)}},
		{plain(kind.Real), []value.Value{float(0), float(negativeZero), float(1.5), float(-math.MaxFloat64), float(5e-324), float(math.Inf(1)), float(math.Inf(-1)), float(math.NaN()), float(math.Float64frombits(0xfff0000000000001))}, []value.Value{num(1)}},
		{text(1), []value.Value{str(""), str("a"), str("\x00"), str("\xff")}, []value.Value{str("ab"), str("é"), str(long60)}},
		{text(60), []value.Value{str(""), str(long60), str(long60[:59] + "\n")}, []value.Value{str(long60 + "x"), str(long60[:59] + "é")}},
		{enum(1), []value.Value{num(0)}, []value.Value{num(-1), num(1)}},
		{enum(12), []value.Value{num(0), num(5), num(11)}, []value.Value{num(-1), num(12), num(1 << 32), num(fewest), num(most)}},
		{seq(1, plain(kind.Bool)), []value.Value{list(), list(num(1))}, []value.Value{list(num(2)), list(num(0), num(0)), num(1), str("a")}},
		{seq(60, enum(2)), []value.Value{list(), list(num(0), num(1), num(0)), list(times(60, num(1))...)}, []value.Value{list(times(61, num(1))...), list(num(2), num(0), num(0)), list(num(0), num(2), num(0)), list(num(0), num(0), num(2))}},
		{seq(2, seq(2, text(1))), []value.Value{list(), list(list()), list(list(), list(str("a"), str("")))}, []value.Value{list(str("a")), list(list(), list(str("ab"))), list(list(str(""), str(""), str("")))}},
		{record(plain(kind.Bool)), []value.Value{list(num(1))}, []value.Value{num(1), num(0), list(), list(num(2)), list(num(1), num(1)), list(list(num(1)))}},
		{record(plain(kind.Card), text(2), enum(3)), []value.Value{list(num(9), str("ab"), num(2))}, []value.Value{
			list(), list(num(9)), list(num(9), str("ab")), list(num(9), str("ab"), num(2), num(0)),
			list(num(-1), str("ab"), num(2)), list(num(9), str("abc"), num(2)), list(num(9), str("ab"), num(3)), list(num(2), num(9), str("ab")),
		}},
		{record(times(12, plain(kind.Long))...), []value.Value{list(times(12, num(-5))...)}, []value.Value{list(times(11, num(0))...), list(times(13, num(0))...)}},
		{choice(plain(kind.Bool)), []value.Value{pick(0, num(1))}, []value.Value{num(0), pick(0, num(2)), pick(1, num(1)), pick(-1, num(1))}},
		{choice(plain(kind.Bool), plain(kind.Card), text(3)), []value.Value{pick(0, num(1)), pick(1, num(2)), pick(2, str("abc"))}, []value.Value{
			num(0), num(1), num(2), pick(0, num(2)), pick(1, str("abc")), pick(2, num(1)), pick(2, str("abcd")), pick(3, num(0)), pick(-1, num(0)), pick(fewest, num(0)), pick(most, num(0)),
			{N: 0, Of: []value.Value{num(0), num(0)}}, {N: 1, Of: []value.Value{num(0), num(0), num(0)}},
		}},
		{choice(times(12, plain(kind.Real))...), []value.Value{pick(11, float(2)), pick(0, float(0))}, []value.Value{pick(12, float(2)), pick(11, num(2)), float(2)}},
	} {
		for _, v := range c.right {
			wantCheck(t, c.x, v, true)
		}
		for _, v := range c.wrong {
			wantCheck(t, c.x, v, false)
		}
	}
}

// Fields that a type does not need are zero, also those of a value inside
// another.
func TestP8_1OtherFields(t *testing.T) {
	const n, f, s, of = 1, 2, 4, 8 // what a value needs
	nan := math.Float64frombits(0x7ff0000000000001)
	for _, c := range []struct {
		x     kind.Type
		v     value.Value
		needs int
	}{
		{plain(kind.Bool), num(1), n}, {plain(kind.Bool), num(0), n}, {plain(kind.Card), num(7), n}, {plain(kind.Long), num(-7), n}, {enum(3), num(2), n}, {enum(1), num(0), n},
		{plain(kind.Real), float(1.5), f}, {plain(kind.Real), float(0), f},
		{text(5), str("ab"), s}, {text(5), str(""), s},
		{seq(5, plain(kind.Bool)), list(num(1)), of}, {seq(5, plain(kind.Bool)), list(), of},
		{record(plain(kind.Bool)), list(num(1)), of},
		{choice(plain(kind.Bool), plain(kind.Card)), pick(1, num(1)), n | of},
	} {
		var wrong []value.Value
		spoil := func(with func(v *value.Value)) {
			v := c.v
			with(&v)
			wrong = append(wrong, v)
		}
		if c.needs&n == 0 {
			for _, number := range []int64{1, -1, 1 << 32, fewest} {
				spoil(func(v *value.Value) { v.N = number })
			}
		}
		if c.needs&f == 0 {
			for _, number := range []float64{1, -1, 5e-324, negativeZero, nan, math.Inf(1)} {
				spoil(func(v *value.Value) { v.F = number })
			}
		}
		if c.needs&s == 0 {
			spoil(func(v *value.Value) { v.Text = "a" })
			spoil(func(v *value.Value) { v.Text = "\x00" })
		}
		if c.needs&of == 0 {
			spoil(func(v *value.Value) { v.Of = []value.Value{{}} })
			spoil(func(v *value.Value) { v.Of = []value.Value{c.v, c.v} })
		}
		wantCheck(t, c.x, c.v, true)
		wantCheck(t, record(plain(kind.Card), c.x), list(num(3), c.v), true)
		for _, v := range wrong {
			wantCheck(t, c.x, v, false)
			wantCheck(t, seq(3, c.x), list(c.v, v), false)
			wantCheck(t, record(plain(kind.Card), c.x), list(num(3), v), false)
			wantCheck(t, choice(plain(kind.Card), c.x), pick(1, v), false)
		}
	}
}

// Types with Refs have no values, also where the value has nothing of it.
func TestP8_1Refs(t *testing.T) {
	for _, c := range []struct {
		x kind.Type
		v value.Value
	}{
		{ref("a"), num(0)}, {kind.Type{Kind: kind.Ref}, num(0)},
		{seq(2, ref("a")), list()}, {seq(2, ref("a")), list(num(0))},
		{record(plain(kind.Bool), ref("a")), list(num(0), num(0))}, {record(ref("a"), plain(kind.Bool)), list(num(0), num(0))},
		{choice(plain(kind.Bool), ref("a")), pick(0, num(0))}, {choice(ref("a"), plain(kind.Bool)), pick(1, num(0))},
		{seq(2, choice(enum(1), record(plain(kind.Card), seq(1, ref("a"))))), list()},
	} {
		wantCheck(t, c.x, c.v, false)
		for _, most := range []int{1, 9} {
			if l := value.Flat(c.x, c.v, most); len(l) != 0 {
				t.Errorf("Flat(%v, %v): %v", c.x, c.v, l)
			}
		}
	}
}

// Types of 20 levels have values; those of more have none, also where the
// value does not get there.
func TestP8_1Depth(t *testing.T) {
	for levels := range 40 {
		right := levels+1 <= 20
		x, v := nested(levels, plain(kind.Card), num(9))
		wantCheck(t, x, v, right)
		y, w := plain(kind.Bool), num(1)
		z, u := text(2), str("ab")
		for range levels {
			y, w = record(y, plain(kind.Bool)), list(w, num(0))
			z, u = choice(enum(1), z), pick(1, u)
		}
		wantCheck(t, y, w, right)
		wantCheck(t, z, u, right)
		if levels > 0 {
			wantCheck(t, x, list(), right)
			wantCheck(t, z, pick(0, num(0)), right)
			wantCheck(t, record(plain(kind.Bool), x), list(num(0), list()), levels+2 <= 20)
			if l := value.Flat(x, list(), 5); (len(l) == 1) != right {
				t.Errorf("Flat of a type of %d levels: %v", levels+1, l)
			}
		}
	}
}

// Whatever is no kind has no values. A type need not be right to have some: it
// is enough that it is whole.
func TestP8_1Whole(t *testing.T) {
	for _, k := range []kind.Kind{kind.Kinds, kind.Kinds + 1, 100, 255} {
		wantCheck(t, plain(k), value.Value{}, false)
		wantCheck(t, seq(1, plain(k)), list(value.Value{}), false)
	}
	long := strings.Repeat("x", 5000)
	wantCheck(t, text(5000), str(long), true)
	wantCheck(t, text(4999), str(long), false)
	wantCheck(t, text(0), str(""), true)
	wantCheck(t, text(0), str("a"), false)
	wantCheck(t, text(-1), str(""), false)
	wantCheck(t, seq(500, plain(kind.Bool)), list(times(500, num(1))...), true)
	wantCheck(t, seq(500, plain(kind.Bool)), list(times(501, num(1))...), false)
	wantCheck(t, seq(-1, plain(kind.Bool)), list(), false)
	wantCheck(t, enum(40), num(39), true)
	wantCheck(t, enum(40), num(40), false)
	wantCheck(t, enum(0), num(0), false)
	wantCheck(t, record(times(40, plain(kind.Bool))...), list(times(40, num(1))...), true)
	wantCheck(t, record(), list(), true)
	wantCheck(t, choice(times(40, plain(kind.Bool))...), pick(39, num(1)), true)
	wantCheck(t, choice(), num(0), false)
}

func TestP8_1Same(t *testing.T) {
	different := []value.Value{
		{}, num(1), num(-1), num(1 << 32), num(fewest), float(1), float(negativeZero), float(math.NaN()), float(math.Inf(1)), float(math.Inf(-1)),
		str("a"), str("A"), str("\x00"), str("ab"), list(num(0)), list(num(1)), list(float(negativeZero)), list(str("a")),
		list(num(0), num(0)), list(num(0), num(1)), list(num(1), num(0)), list(list(num(0))), list(list(num(1))), list(list(num(0)), list(num(0))),
		list(list(num(1)), num(0)), list(num(0), list(num(1))), pick(1, num(0)), {F: 1, Text: "a"}, {N: 1, F: 1}, {N: 1, Text: "a"},
	}
	for i, a := range different {
		for j, b := range different {
			for _, with := range []func(value.Value) value.Value{
				func(v value.Value) value.Value { return v },
				func(v value.Value) value.Value { return list(num(5), v) },
				func(v value.Value) value.Value { return list(v, num(5)) },
				func(v value.Value) value.Value { return pick(3, list(str("x"), pick(2, v), float(2))) },
			} {
				if got := value.Same(with(a), with(b)); got != (i == j) {
					t.Errorf("Same(%v, %v): %v", with(a), with(b), got)
				}
			}
		}
	}
	nan, other := float(math.Float64frombits(0xfff8000000000123)), float(math.Float64frombits(0x7ff0000000000001))
	if !value.Same(nan, other) || !value.Same(list(num(1), nan), list(num(1), other)) {
		t.Error("Same: two NaN differ")
	}
}
