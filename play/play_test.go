package play_test

import (
	"fmt"
	"math"
	"slices"
	"strings"
	"testing"

	"prompter/api"
	"prompter/kind"
	"prompter/play"
	"prompter/prog"
	"prompter/value"
)

const fewest, most = math.MinInt64, math.MaxInt64

var negativeZero = math.Copysign(0, -1)

func plain(k kind.Kind) kind.Type      { return kind.Type{Kind: k} }
func text(most int) kind.Type          { return kind.Type{Kind: kind.Text, Most: most} }
func ref(name string) kind.Type        { return kind.Type{Kind: kind.Ref, Names: []string{name}} }
func seq(n int, x kind.Type) kind.Type { return kind.Type{Kind: kind.Seq, Most: n, Of: []kind.Type{x}} }
func enum(n int) kind.Type             { return kind.Type{Kind: kind.Enum, Names: names(n)} }
func record(of ...kind.Type) kind.Type {
	return kind.Type{Kind: kind.Record, Names: names(len(of)), Of: of}
}
func choice(of ...kind.Type) kind.Type {
	return kind.Type{Kind: kind.Choice, Names: names(len(of)), Of: of}
}

// names returns the names a, ab, abc and so on.
func names(n int) []string {
	var list []string
	for i := range n {
		list = append(list, "abcdefghijklmnopqrstuvwxyz"[:i%26+1])
	}
	return list
}

func times[T any](n int, x T) []T { return slices.Repeat([]T{x}, n) }

func num(n int64) value.Value            { return value.Value{N: n} }
func float(f float64) value.Value        { return value.Value{F: f} }
func str(s string) value.Value           { return value.Value{Text: s} }
func list(of ...value.Value) value.Value { return value.Value{Of: of} }
func pick(n int64, v value.Value) value.Value {
	return value.Value{N: n, Of: []value.Value{v}}
}

// longs is a record of n Longs, and numbers is one's value.
func longs(n int) kind.Type { return record(times(n, plain(kind.Long))...) }
func numbers(list ...int64) value.Value {
	var v value.Value
	for _, n := range list {
		v.Of = append(v.Of, num(n))
	}
	return v
}

// nested returns x in so many sequences, one in another, and the value that is
// v in as many.
func nested(levels int, x kind.Type, v value.Value) (kind.Type, value.Value) {
	for range levels {
		x, v = seq(1, x), list(v)
	}
	return x, v
}

func loop(body uint8, n int16) prog.Instr {
	return prog.Instr{Op: prog.Loop, B: body, N: n}
}

func skip(a uint8, n int16) prog.Instr {
	return prog.Instr{Op: prog.Skip, A: a, N: n}
}

func set(dst uint8, n int16) prog.Instr {
	return prog.Instr{Op: prog.Set, Dst: dst, N: n}
}

func move(dst, a uint8) prog.Instr {
	return prog.Instr{Op: prog.Move, Dst: dst, A: a}
}

// body is a procedure that takes eight Longs, and answers them.
func body(p ...prog.Instr) play.Body {
	return play.Body{Takes: longs(8), Answers: longs(8), Program: p}
}

// state is one whose registers differ from each other and from zeros.
var state = play.State{100, -101, 1 << 40, -1 << 40, most, fewest, 7, 107}

// eight are arguments for body.
var eight = []int64{8, -9, 1<<31 - 1, -1 << 31, 12, 13, 14, -15}

// wantPlay checks the state and the answer of an execution without an error.
func wantPlay(t *testing.T, what string, b play.Body, s play.State, v value.Value, out play.State, answer value.Value) {
	t.Helper()
	want(t, what, b, s, v, out, play.Outcome{Value: answer})
}

// wantError checks an execution with an error: the state is as it was, and
// there is no answer.
func wantError(t *testing.T, what string, b play.Body, s play.State, v value.Value, e api.Errno, raised int) {
	t.Helper()
	want(t, what, b, s, v, s, play.Outcome{Err: e, Raised: raised})
}

// want checks an execution. What it tells of a wrong one is not longer than
// anybody would read.
func want(t *testing.T, what string, b play.Body, s play.State, v value.Value, out play.State, o play.Outcome) {
	t.Helper()
	gotOut, got := play.Play(b, s, v)
	if gotOut != out || !play.Same(got, o) {
		t.Errorf("%s:\n%.300v\nwith %.200v on %v:\n%v, %.400v, want\n%v, %.400v", what, b, v, s, gotOut, told(got), out, told(o))
	}
}

// told is an outcome as text, its error as a number.
func told(o play.Outcome) string {
	return fmt.Sprintf("error %d, raised %d, %v", int(o.Err), o.Raised, o.Value)
}

// The chapter's example.
func TestP11_1Example(t *testing.T) {
	b := play.Body{Takes: plain(kind.Card), Answers: plain(kind.Long), Program: prog.Program{{Op: prog.Add, Dst: 0, A: 0, B: 8}}}
	wantPlay(t, "5", b, play.State{}, num(5), play.State{5}, num(5))
	wantPlay(t, "5 more", b, play.State{5}, num(5), play.State{10}, num(5))
	wantPlay(t, "of others", b, state, num(5), play.State{105, -101, 1 << 40, -1 << 40, most, fewest, 7, 107}, num(5))
}

// Without instructions, the state stays, and the arguments' numbers are
// answered.
func TestP11_1Nothing(t *testing.T) {
	wantPlay(t, "nothing", body(), state, numbers(eight...), state, numbers(eight...))
	wantPlay(t, "nothing", body(), play.State{}, numbers(eight...), play.State{}, numbers(eight...))
	wantPlay(t, "stop", body(prog.Instr{}), state, numbers(eight...), state, numbers(eight...))
	wantPlay(t, "the zero body", play.Body{}, state, num(1), state, num(1))
	wantPlay(t, "the zero body", play.Body{}, play.State{}, num(0), play.State{}, num(0))
}

// Each register is initialized and returned alone.
func TestP11_1Registers(t *testing.T) {
	for i := range 8 {
		for _, n := range []int64{1, -1, most, fewest, 1 << 32} {
			s := play.State{}
			s[i] = n
			wantPlay(t, "a register of the state", body(), s, numbers(0, 0, 0, 0, 0, 0, 0, 0), s, numbers(0, 0, 0, 0, 0, 0, 0, 0))
		}
		for _, n := range []int64{1, -1, 1<<31 - 1, -1 << 31} {
			l := make([]int64, 8)
			l[i] = n
			wantPlay(t, "a register of the arguments", body(), play.State{}, numbers(l...), play.State{}, numbers(l...))
		}
	}
	for dst := range uint8(16) {
		s, l := state, slices.Clone(eight)
		if dst < 8 {
			s[dst] = -77
		} else {
			l[dst-8] = -77
		}
		wantPlay(t, "a register", body(set(dst, -77)), state, numbers(eight...), s, numbers(l...))
	}
}

// More numbers than registers, and fewer.
func TestP11_1Arguments(t *testing.T) {
	var l []int64
	for n := range 13 {
		want := make([]int64, 8)
		copy(want, l)
		b := body()
		b.Takes = longs(n)
		wantPlay(t, "arguments", b, state, numbers(l...), state, numbers(want...))
		b.Program = prog.Program{{Op: prog.Sum, Dst: 3}}
		s := state
		s[3] = int64(1000*n + n*(n-1)/2)
		wantPlay(t, "all arguments", b, state, numbers(l...), s, numbers(want...))
		l = append(l, int64(1000+n))
	}
}

// The numbers of each kind, in their order.
func TestP11_1Flat(t *testing.T) {
	for _, c := range []struct {
		x    kind.Type
		v    value.Value
		want []int64
	}{
		{plain(kind.Bool), num(1), []int64{1}},
		{plain(kind.Card), num(65535), []int64{65535}},
		{plain(kind.Long), num(-1 << 31), []int64{-1 << 31}},
		{plain(kind.Real), float(-2.9), []int64{-2}},
		{plain(kind.Real), float(math.NaN()), []int64{0}},
		{plain(kind.Real), float(math.Inf(-1)), []int64{-1 << 31}},
		{text(60), str(strings.Repeat("x", 60)), []int64{60}},
		{text(60), str(""), []int64{0}},
		{enum(12), num(11), []int64{11}},
		{seq(3, plain(kind.Card)), list(), []int64{0}},
		{seq(3, plain(kind.Card)), numbers(5, 6), []int64{2, 5, 6}},
		{seq(60, plain(kind.Card)), numbers(1, 2, 3, 4, 5, 6, 7, 8, 9), []int64{9, 1, 2, 3, 4, 5, 6, 7}},
		{choice(plain(kind.Bool), text(9)), pick(1, str("abc")), []int64{1, 3}},
		{record(text(4), seq(2, enum(3)), choice(plain(kind.Real)), plain(kind.Long)), list(str("é"), numbers(2, 1), pick(0, float(3.5)), num(-8)), []int64{2, 2, 2, 1, 0, 3, -8}},
		{record(longs(4), longs(5)), list(numbers(1, 2, 3, 4), numbers(5, 6, 7, 8, 9)), []int64{1, 2, 3, 4, 5, 6, 7, 8}},
		{record(), list(), nil},
		{record(record(), record()), list(list(), list()), nil},
	} {
		b := body()
		b.Takes = c.x
		want := make([]int64, 8)
		copy(want, c.want)
		wantPlay(t, "numbers", b, state, c.v, state, numbers(want...))
	}
}

// 64 numbers count, and the 65th does not.
func TestP11_1Most(t *testing.T) {
	ones := numbers(times[int64](60, 1)...)
	for _, c := range []struct {
		x    kind.Type
		v    value.Value
		want int64
	}{
		{seq(60, plain(kind.Card)), ones, 60 + 60},
		{record(seq(60, plain(kind.Card)), longs(2)), list(ones, numbers(1000, 10000)), 60 + 60 + 11000},
		{record(seq(60, plain(kind.Card)), longs(3)), list(ones, numbers(1000, 10000, 100000)), 60 + 60 + 111000},
		{record(seq(60, plain(kind.Card)), longs(4)), list(ones, numbers(1000, 10000, 100000, 1000000)), 60 + 60 + 111000},
		{record(seq(60, plain(kind.Card)), longs(12)), list(ones, numbers(times[int64](12, 1000)...)), 60 + 60 + 3000},
		{record(longs(4), seq(60, plain(kind.Card))), list(numbers(1, 2, 3, 4), ones), 10 + 60 + 59},
		{seq(60, seq(60, plain(kind.Card))), list(times(60, ones)...), 60 + 60 + 60 + 60 + 1},
		{seq(60, plain(kind.Long)), numbers(times[int64](60, -1<<31)...), 60 - 60<<31},
	} {
		b := play.Body{Takes: c.x, Program: prog.Program{{Op: prog.Sum, Dst: 7}}}
		s := state
		s[7] = c.want
		wantPlay(t, "a sum", b, state, c.v, s, num(value.Flat(c.x, c.v, 1)[0]%2))
	}
}

// Answers are made from the numbers of registers 8 to 15, starting over.
func TestP11_1Answers(t *testing.T) {
	for _, c := range []struct {
		x    kind.Type
		want value.Value
	}{
		{plain(kind.Bool), num(1)},
		{plain(kind.Card), num(65529)},
		{plain(kind.Long), num(-7)},
		{plain(kind.Real), float(-7)},
		{text(5), str("abcde")},
		{text(60), str("abcdefghijklmnopqrstuvwxyzabcdefghijklmnopqrstuvwxyzab")},
		{enum(3), num(2)},
		{enum(1), num(0)},
		{seq(5, plain(kind.Long)), numbers(9)},
		{seq(5, text(7)), list(str("a"))},
		{record(plain(kind.Bool), plain(kind.Card)), numbers(1, 9)},
		{longs(8), numbers(-7, 9, -10, 11, -12, 13, -14, 15)},
		{longs(12), numbers(-7, 9, -10, 11, -12, 13, -14, 15, -7, 9, -10, 11)},
		{choice(plain(kind.Bool), plain(kind.Long), text(1)), pick(2, str("a"))},
		{record(longs(7), seq(3, longs(2)), plain(kind.Real)), list(numbers(-7, 9, -10, 11, -12, 13, -14), list(numbers(-7, 9), numbers(-10, 11), numbers(-12, 13)), float(-14))},
	} {
		b := play.Body{Takes: longs(8), Answers: c.x}
		wantPlay(t, "an answer", b, state, numbers(-7, 9, -10, 11, -12, 13, -14, 15), state, c.want)
	}
	for n, want := range map[int64]value.Value{0: float(0), 1 << 53: float(1 << 53), 1<<53 + 1: float(1 << 53), most: float(1 << 63), fewest: float(-1 << 63)} {
		b := play.Body{Answers: plain(kind.Real), Program: prog.Program{move(8, 5)}}
		wantPlay(t, "a Real of 64 bits", b, play.State{5: n}, num(0), play.State{5: n}, want)
	}
	for n, want := range map[int64]int64{1<<31 - 1: 1<<31 - 1, 1 << 31: -1 << 31, 1 << 32: 0, most: -1, fewest: 0, -1 << 32: 0, -1<<31 - 1: 1<<31 - 1} {
		b := play.Body{Answers: plain(kind.Long), Program: prog.Program{move(8, 5)}}
		wantPlay(t, "a Long of 64 bits", b, play.State{5: n}, num(1), play.State{5: n}, num(want))
	}
}

// A type of 20 levels has values.
func TestP11_1Deep(t *testing.T) {
	for levels := range 20 {
		x, v := nested(levels, plain(kind.Long), num(1))
		wantPlay(t, "a deep type", play.Body{Takes: x, Answers: x}, state, v, state, v)
	}
}

func TestP11_1Same(t *testing.T) {
	nan := math.Float64frombits(0xfff0000000000001)
	outcomes := []play.Outcome{
		{}, {Err: api.ErrFault}, {Err: api.ErrArgs}, {Err: api.ErrRaised}, {Err: api.ErrRaised, Raised: 1}, {Err: api.ErrRaised, Raised: 2}, {Raised: 1}, {Err: -1}, {Raised: -1}, {Raised: 1 << 32},
		{Value: num(1)}, {Value: num(-1)}, {Value: float(1)}, {Value: float(negativeZero)}, {Value: float(nan)}, {Value: str("a")}, {Value: str("b")},
		{Value: list(num(0))}, {Value: list(num(1))}, {Value: list(num(1), num(1))}, {Value: list(list(num(1)))}, {Value: pick(1, float(negativeZero))}, {Value: pick(1, float(0))},
		{Err: api.ErrRaised, Raised: 1, Value: num(1)}, {Err: api.ErrRaised, Raised: 1, Value: list(float(nan))}, {Err: api.ErrFault, Value: list(float(nan))},
	}
	for i, a := range outcomes {
		for j, b := range outcomes {
			if play.Same(a, b) != (i == j) {
				t.Errorf("Same(%v, %v): %v", a, b, play.Same(a, b))
			}
		}
	}
	for _, pair := range [][2]value.Value{{float(nan), float(math.NaN())}, {list(), {Of: []value.Value{}}}, {list(str("a"), num(1)), list(str("a"), num(1))}} {
		if !play.Same(play.Outcome{Value: pair[0]}, play.Outcome{Value: pair[1]}) {
			t.Errorf("Same of %v and %v: false", pair[0], pair[1])
		}
	}
}
