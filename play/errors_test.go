package play_test

import (
	"math"
	"testing"

	"prompter/api"
	"prompter/kind"
	"prompter/play"
	"prompter/prog"
	"prompter/value"
)

// changing are instructions that would change the state and the answer.
var changing = prog.Program{set(0, 5), set(7, 6), set(8, 7), {Op: prog.Sum, Dst: 1}}

// with returns changing, and these instructions behind it.
func with(p ...prog.Instr) prog.Program {
	return append(changing[:len(changing):len(changing)], p...)
}

// notValid returns programs with each of Check's errors.
func notValid() []prog.Program {
	return []prog.Program{
		make(prog.Program, 25), make(prog.Program, 1000),
		{{Op: prog.Ops}}, {{Op: 255}}, {{Dst: 16}}, {{A: 16}}, {{B: 16}}, {{Op: prog.Set, Dst: 200}}, {{Op: prog.Add, B: 255}},
		{loop(0, 1), {}}, {loop(1, 1)}, {loop(1, 0), {}}, {loop(1, 9), {}}, {loop(200, 1), {}}, {loop(2, 2), loop(1, 2), {}},
		{skip(0, 0), {}}, {skip(0, -1), {}}, {skip(0, 2), {}}, {skip(0, math.MaxInt16), {}}, {skip(0, math.MinInt16), {}},
		{loop(2, 2), skip(0, 2), {}, {}}, {skip(0, 1), loop(1, 2), {}},
		{{Op: prog.Raise, N: -1}}, {{Op: prog.Raise, A: 8, N: math.MinInt16}},
		{{}, {Op: prog.Ops}}, // behind a Stop
		{skip(15, 1), {Dst: 16}},
	}
}

// Programs that are not valid, alone and behind others.
func TestP11_1NotValid(t *testing.T) {
	for _, p := range notValid() {
		wantError(t, "a program that is not valid", body(p...), state, numbers(eight...), api.ErrFault, 0)
		wantError(t, "a program that is not valid", body(with(p...)...), state, numbers(eight...), api.ErrFault, 0)
		wantError(t, "a program that is not valid", body(with(p...)...), play.State{}, numbers(0, 0, 0, 0, 0, 0, 0, 0), api.ErrFault, 0)
	}
	wantPlay(t, "24 instructions", body(make(prog.Program, 24)...), state, numbers(eight...), state, numbers(eight...))
}

// notTaken returns types with arguments that are no values of them.
func notTaken() map[*kind.Type][]value.Value {
	deep, deepValue := nested(20, plain(kind.Long), num(1))
	cases := map[*kind.Type][]value.Value{}
	add := func(x kind.Type, list ...value.Value) { cases[&x] = list }
	add(plain(kind.Bool), num(2), num(-1), float(1), float(negativeZero), str("a"), list(num(0)), value.Value{N: 1, Text: "x"})
	add(plain(kind.Card), num(-1), num(65536), num(most), num(fewest))
	add(plain(kind.Long), num(1<<31), num(-1<<31-1), value.Value{N: 1, F: 1})
	add(plain(kind.Real), num(1), str("1"), value.Value{N: 1, F: math.NaN()})
	add(text(2), str("abc"), str("aé"), num(2))
	add(enum(3), num(3), num(-1))
	add(seq(2, plain(kind.Bool)), numbers(0, 1, 0), numbers(0, 2), num(2))
	add(longs(8), numbers(1, 2, 3, 4, 5, 6, 7), numbers(1, 2, 3, 4, 5, 6, 7, 8, 9), numbers(1, 2, 3, 4, 5, 6, 7, 1<<31), list(), num(1))
	add(choice(plain(kind.Bool), plain(kind.Card)), num(0), pick(0, num(2)), pick(2, num(0)), pick(-1, num(0)), pick(1, num(65536)), value.Value{N: 1, Of: numbers(1, 1).Of})
	add(ref("a"), num(0), list())
	add(record(plain(kind.Bool), ref("a")), list(num(1), num(1)), list(num(1)))
	add(seq(3, ref("a")), list(), list(num(0)))
	add(plain(kind.Kinds), num(0))
	add(plain(255), num(0))
	add(enum(0), num(0))
	add(choice(), num(0), pick(0, num(0)))
	add(plain(kind.Seq), list())
	add(deep, deepValue, list())
	return cases
}

// Arguments that are not values of Takes.
func TestP11_1ErrArgs(t *testing.T) {
	for x, list := range notTaken() {
		for _, v := range list {
			for _, p := range []prog.Program{nil, changing, with(prog.Instr{Op: prog.Raise, A: 8, N: 3})} {
				b := play.Body{Takes: *x, Answers: longs(8), Program: p}
				wantError(t, "arguments", b, state, v, api.ErrArgs, 0)
				wantError(t, "arguments", b, play.State{}, v, api.ErrArgs, 0)
			}
		}
	}
}

// withoutValues returns types that have no values at all.
func withoutValues() []kind.Type {
	deep, _ := nested(20, plain(kind.Long), num(1))
	return []kind.Type{
		ref("a"), record(plain(kind.Bool), ref("a")), choice(ref("a"), plain(kind.Bool)), seq(1, ref("a")), plain(kind.Ref),
		plain(kind.Kinds), plain(255), record(plain(99)), deep, record(plain(kind.Bool), deep), seq(3, deep), choice(plain(kind.Bool), deep), enum(0), choice(),
	}
}

// Answers that are not values: what the program did is undone.
func TestP11_1NoAnswer(t *testing.T) {
	for _, x := range withoutValues() {
		for _, p := range []prog.Program{nil, changing, with(prog.Instr{}), with(loop(1, 8), set(8, 0))} {
			b := play.Body{Takes: longs(8), Answers: x, Program: p}
			wantError(t, "an answer", b, state, numbers(eight...), api.ErrFault, 0)
			wantError(t, "an answer", b, play.State{}, numbers(0, 0, 0, 0, 0, 0, 0, 0), api.ErrFault, 0)
		}
	}
}

// R2: an invalid program comes before the arguments, these before what the
// program does, and that before the answer.
func TestR2(t *testing.T) {
	raise := with(prog.Instr{Op: prog.Raise, A: 8, N: 3})
	divide := with(prog.Instr{Op: prog.Set, Dst: 9}, prog.Instr{Op: prog.Div, A: 8, B: 9})
	wrong := with(prog.Instr{Op: prog.Raise, A: 8, N: 3}, prog.Instr{Op: prog.Ops})
	for _, c := range []struct {
		what    string
		p       prog.Program
		v       value.Value
		answers kind.Type
		e       api.Errno
		raised  int
	}{
		{"all", wrong, num(2), ref("a"), api.ErrFault, 0},
		{"a program, arguments", wrong, num(2), plain(kind.Bool), api.ErrFault, 0},
		{"a program", wrong, num(1), plain(kind.Bool), api.ErrFault, 0},
		{"arguments, raise, an answer", raise, num(2), ref("a"), api.ErrArgs, 0},
		{"arguments, a division, an answer", divide, num(2), ref("a"), api.ErrArgs, 0},
		{"arguments, an answer", changing, num(2), ref("a"), api.ErrArgs, 0},
		{"raise, an answer", raise, num(1), ref("a"), api.ErrRaised, 3},
		{"raise", raise, num(1), plain(kind.Bool), api.ErrRaised, 3},
		{"a division, an answer", divide, num(1), ref("a"), api.ErrFault, 0},
		{"an answer", changing, num(1), ref("a"), api.ErrFault, 0},
		{"raise, a division", append(raise, divide[4:]...), num(1), ref("a"), api.ErrRaised, 3},
		{"a division, raise", append(divide, raise[4:]...), num(1), ref("a"), api.ErrFault, 0},
	} {
		b := play.Body{Takes: plain(kind.Bool), Answers: c.answers, Program: c.p}
		wantError(t, c.what, b, state, c.v, c.e, c.raised)
	}
}

// The registers at the end matter to an error of the answer alone, not the
// state: each error leaves each state as it was.
func TestP11_1StateUnchanged(t *testing.T) {
	all := prog.Program{}
	for i := range uint8(16) {
		all = append(all, set(i, 99))
	}
	for _, c := range []struct {
		p      prog.Program
		e      api.Errno
		raised int
	}{
		{prog.Program{{Op: prog.Raise, A: 8, N: 12}}, api.ErrRaised, 12},
		{prog.Program{{Op: prog.Sub, Dst: 9, A: 8, B: 8}, {Op: prog.Div, Dst: 0, A: 8, B: 9}}, api.ErrFault, 0},
		{prog.Program{loop(2, 3), {Op: prog.Raise, A: 9, N: 13}, {Op: prog.Sub, Dst: 9, A: 8, B: 8}}, api.ErrRaised, 13},
	} {
		for i := range 8 {
			s := play.State{}
			s[i] = 1
			wantError(t, "an error", body(append(all[:16:16], c.p...)...), s, numbers(eight...), c.e, c.raised)
		}
	}
}
