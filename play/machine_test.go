package play_test

import (
	"math"
	"math/big"
	"slices"
	"testing"

	"prompter/api"
	"prompter/kind"
	"prompter/play"
	"prompter/prog"
	"prompter/value"
)

// borders are numbers at which results wrap around, or change their sign.
var borders = []int64{
	0, 1, 2, 3, 7, 10, 1<<31 - 1, 1 << 31, 1 << 32, 3037000499, 3037000500, 1 << 62, most - 1, most,
	-1, -2, -3, -7, -10, -1 << 31, -1<<31 - 1, -1 << 32, -3037000500, -1 << 62, fewest + 1, fewest,
}

// wrapped is a whole number modulo 2^64, from -2^63 up.
func wrapped(n *big.Int) int64 {
	modulus := new(big.Int).Lsh(big.NewInt(1), 64)
	n = new(big.Int).Mod(n, modulus)
	if n.Bit(63) == 1 {
		n.Sub(n, modulus)
	}
	return n.Int64()
}

// computed is what an op makes of two numbers, without any limit before the
// end; false is division by 0.
func computed(op prog.Op, a, b int64) (int64, bool) {
	x, y, result := big.NewInt(a), big.NewInt(b), new(big.Int)
	switch op {
	case prog.Move:
		result = x
	case prog.Add:
		result.Add(x, y)
	case prog.Sub:
		result.Sub(x, y)
	case prog.Mul:
		result.Mul(x, y)
	case prog.Div:
		if b == 0 {
			return 0, false
		}
		result.Abs(x).Div(result, new(big.Int).Abs(y)) // of numbers from 0 up, there is but one way to divide
		if x.Sign() != y.Sign() {
			result.Neg(result)
		}
	case prog.Less:
		result.SetInt64(int64(max(y.Cmp(x), 0)))
	}
	return wrapped(result), true
}

// calculations are the ops that make a number of two registers, or of one.
var calculations = []prog.Op{prog.Move, prog.Add, prog.Sub, prog.Mul, prog.Div, prog.Less}

// Each op with all pairs of borders.
func TestP11_2Calculations(t *testing.T) {
	for _, op := range calculations {
		for _, a := range borders {
			for _, b := range borders {
				s := play.State{1: a, 2: b}
				p := body(prog.Instr{Op: op, Dst: 3, A: 1, B: 2})
				n, ok := computed(op, a, b)
				if !ok {
					wantError(t, "a division", p, s, numbers(eight...), api.ErrFault, 0)
					continue
				}
				wantPlay(t, "a calculation", p, s, numbers(eight...), play.State{1: a, 2: b, 3: n}, numbers(eight...))
			}
		}
	}
}

// Results that are written down.
func TestP11_2Results(t *testing.T) {
	for _, c := range []struct {
		op         prog.Op
		a, b, want int64
	}{
		{prog.Move, 5, 6, 5}, {prog.Move, fewest, 0, fewest},
		{prog.Add, 2, 3, 5}, {prog.Add, 2, -3, -1}, {prog.Add, most, 1, fewest}, {prog.Add, fewest, -1, most}, {prog.Add, most, most, -2}, {prog.Add, fewest, fewest, 0},
		{prog.Sub, 2, 3, -1}, {prog.Sub, 3, 2, 1}, {prog.Sub, fewest, 1, most}, {prog.Sub, most, -1, fewest}, {prog.Sub, 0, fewest, fewest}, {prog.Sub, -2, most, most},
		{prog.Mul, 6, 7, 42}, {prog.Mul, -6, 7, -42}, {prog.Mul, 1 << 32, 1 << 32, 0}, {prog.Mul, 1 << 62, 2, fewest}, {prog.Mul, most, most, 1}, {prog.Mul, fewest, -1, fewest}, {prog.Mul, most, 2, -2},
		{prog.Div, 7, 2, 3}, {prog.Div, -7, 2, -3}, {prog.Div, 7, -2, -3}, {prog.Div, -7, -2, 3}, {prog.Div, 1, 2, 0}, {prog.Div, -1, 2, 0}, {prog.Div, 0, -5, 0},
		{prog.Div, fewest, -1, fewest}, {prog.Div, fewest, 1, fewest}, {prog.Div, fewest, 2, -1 << 62}, {prog.Div, most, fewest, 0}, {prog.Div, fewest, most, -1}, {prog.Div, fewest, fewest, 1},
		{prog.Less, 1, 2, 1}, {prog.Less, 2, 2, 0}, {prog.Less, 3, 2, 0}, {prog.Less, -1, 0, 1}, {prog.Less, 0, -1, 0}, {prog.Less, fewest, most, 1}, {prog.Less, most, fewest, 0}, {prog.Less, most - 1, most, 1},
	} {
		s := play.State{4: c.a, 6: c.b}
		out := s
		out[5] = c.want
		wantPlay(t, "a result", body(prog.Instr{Op: c.op, Dst: 5, A: 4, B: 6}), s, numbers(eight...), out, numbers(eight...))
	}
	for _, n := range []int64{0, 1, -1, most, fewest} {
		s := play.State{4: n}
		wantError(t, "a division by 0", body(prog.Instr{Op: prog.Div, Dst: 5, A: 4, B: 6}), s, numbers(eight...), api.ErrFault, 0)
	}
}

// execution is what all registers are before a program and after it.
type execution struct {
	program       prog.Program
	before, after [16]int64
}

// check executes the program, and again with its last eight registers moved
// into the state, where all their bits are seen.
func (x execution) check(t *testing.T, what string) {
	t.Helper()
	v := numbers(x.before[8:]...)
	answers := value.Build(longs(8), x.after[8:])
	wantPlay(t, what, body(x.program...), play.State(x.before[:8]), v, play.State(x.after[:8]), answers)
	p := slices.Clone(x.program)
	for i := range uint8(8) {
		p = append(p, move(i, 8+i))
	}
	wantPlay(t, what+", and moves", body(p...), play.State(x.before[:8]), v, play.State(x.after[8:]), answers)
}

// different are numbers for all registers, each of its own; those of the
// arguments have 32 bits at most.
func different() [16]int64 {
	return [16]int64{most, -201, 1 << 33, 203, -1 << 40, 205, fewest, 207, 108, -109, 1<<31 - 1, 111, -1 << 31, 113, -114, 115}
}

// Each op with each register in each place: no others are read or written.
func TestP11_2EachRegister(t *testing.T) {
	for i := range 16 * 16 * 16 {
		dst, a, b := i>>8, i>>4&15, i&15
		for _, op := range calculations {
			x := execution{prog.Program{{Op: op, Dst: uint8(dst), A: uint8(a), B: uint8(b), N: 1234}}, different(), different()}
			x.after[dst], _ = computed(op, x.before[a], x.before[b])
			x.check(t, "a calculation")
		}
		x := execution{prog.Program{{Op: prog.Set, Dst: uint8(dst), A: uint8(a), B: uint8(b), N: -1234}}, different(), different()}
		x.after[dst] = -1234
		x.check(t, "Set")
		x = execution{prog.Program{{Op: prog.Sum, Dst: uint8(dst), A: uint8(a), B: uint8(b), N: 1234}}, different(), different()}
		x.after[dst] = 108 - 109 + 1<<31 - 1 + 111 - 1<<31 + 113 - 114 + 115
		x.check(t, "Sum")
	}
}

// Ops that have no result leave all registers as they are.
func TestP11_2NoResult(t *testing.T) {
	for dst := range uint8(16) {
		for b := range uint8(16) {
			zero, v := different(), slices.Clone(eight)
			zero[9] = 0
			x := execution{prog.Program{{Op: prog.Raise, Dst: dst, A: 9, B: b, N: 77}}, zero, zero}
			x.check(t, "Raise")
			x = execution{prog.Program{{Op: prog.Skip, Dst: dst, A: 9, B: b, N: 1}, set(dst, 55)}, zero, zero}
			x.check(t, "a Skip that skips")
			x = execution{prog.Program{{Op: prog.Skip, Dst: dst, A: 9, B: b, N: 1}, move(3, 3)}, different(), different()}
			x.check(t, "a Skip that does not")
			x = execution{prog.Program{{Op: prog.Loop, Dst: dst, A: b, B: 1, N: 8}, move(3, 3)}, different(), different()}
			x.check(t, "a Loop")
			wantPlay(t, "Stop", body(prog.Instr{Op: prog.Stop, Dst: dst, A: b, B: 9, N: 5}), state, numbers(v...), state, numbers(v...))
		}
	}
}

// Each number that Set may have, and Raise.
func TestP11_2EveryN(t *testing.T) {
	b := play.Body{Answers: plain(kind.Long), Program: prog.Program{{Op: prog.Set, Dst: 8}, {Op: prog.Set, Dst: 2}}}
	raise := play.Body{Program: prog.Program{set(1, 9), {Op: prog.Raise, A: 8}}}
	for n := math.MinInt16; n <= math.MaxInt16; n++ {
		b.Program[0].N, b.Program[1].N = int16(n), int16(n)
		wantPlay(t, "Set", b, play.State{2: 5}, num(1), play.State{2: int64(n)}, num(int64(n)))
		raise.Program[1].N = int16(n)
		if n < 0 {
			wantError(t, "Raise", raise, state, num(1), api.ErrFault, 0) // the program is not valid
			continue
		}
		wantError(t, "Raise", raise, state, num(1), api.ErrRaised, n)
		wantPlay(t, "no Raise", raise, play.State{}, num(0), play.State{1: 9}, num(0))
	}
}

// Raise and Skip ask for 0, not for another number or bit.
func TestP11_2Zero(t *testing.T) {
	for _, n := range append(borders, 256, 65536, -65536, 1<<63-1<<32) {
		for a := range 16 {
			x := execution{before: different()}
			x.before[a] = n
			s, v := play.State(x.before[:8]), numbers(x.before[8:]...)
			if value.Check(longs(8), v) != api.OK {
				continue
			}
			raise := body(set(1, 5), prog.Instr{Op: prog.Raise, A: uint8(a), N: 32})
			other := uint8(a+1) % 16
			x.program = prog.Program{skip(uint8(a), 1), set(other, 5)}
			x.after = x.before
			if n != 0 {
				x.after[other] = 5
			}
			x.check(t, "Skip")
			if n != 0 || a == 1 { // which is set before
				wantError(t, "Raise", raise, s, v, api.ErrRaised, 32)
				continue
			}
			out := s
			out[1] = 5
			wantPlay(t, "no Raise", raise, s, v, out, v)
		}
	}
}

// digits returns n instructions, each of which appends its digit, from 1 up,
// to the number in register 0: the number then tells which were executed.
// Register 15 is their factor.
func digits(n int) []prog.Program {
	var list []prog.Program
	for i := range n {
		list = append(list, prog.Program{{Op: prog.Mul, B: 15}, set(14, int16(i+1)), {Op: prog.Add, B: 14}})
	}
	return list
}

// joined puts programs behind each other.
func joined(list ...prog.Program) (all prog.Program) {
	for _, p := range list {
		all = append(all, p...)
	}
	return all
}

func one(x prog.Instr) prog.Program            { return prog.Program{x} }
func over(a uint8, n int16) prog.Program       { return one(skip(a, n)) }
func turns(length uint8, n int16) prog.Program { return one(loop(length, n)) }
func raise(a uint8) prog.Program               { return one(prog.Instr{Op: prog.Raise, A: a, N: 4}) }
func divide(b uint8) prog.Program              { return one(prog.Instr{Op: prog.Div, Dst: 12, A: 9, B: b}) }

// Skips, Loops and Stops: what is executed, digit by digit. A digit has three
// instructions. Register 8 is 0, 9 is 1, and 10 is 3 at first.
func TestP11_2Jumps(t *testing.T) {
	d := digits(4)
	stop := prog.Program{{}}
	countdown := prog.Program{{Op: prog.Sub, Dst: 10, A: 10, B: 9}}
	isLast := prog.Program{{Op: prog.Less, Dst: 11, A: 10, B: 9}, skip(11, 1)} // skips one before the third turn
	for _, c := range []struct {
		what string
		p    prog.Program
		want int64
	}{
		{"one by one", joined(d[0], d[1], d[2]), 123},
		{"Stop first", joined(stop, d[0]), 0},
		{"Stop between", joined(d[0], stop, d[1]), 1},
		{"Stop last", joined(d[0], d[1], stop), 12},
		{"Stop before Raise", joined(d[0], stop, raise(9)), 1},
		{"Stop before a division by 0", joined(d[0], stop, divide(8)), 1},
		{"a skipped Stop", joined(d[0], over(8, 1), stop, d[1]), 12},
		{"a skipped Raise", joined(d[0], over(8, 1), raise(9), d[1]), 12},
		{"a skipped division by 0", joined(d[0], over(8, 1), divide(8), d[1]), 12},
		{"no Raise", joined(d[0], raise(8), d[1]), 12},
		{"skip one", joined(over(8, 3), d[0], d[1]), 2},
		{"skip two", joined(d[2], over(8, 6), d[0], d[1], d[3]), 34},
		{"do not skip", joined(d[2], over(9, 6), d[0], d[1], d[3]), 3124},
		{"skip to the end", joined(d[2], over(8, 6), d[0], d[1]), 3},
		{"skip to a skip", joined(over(8, 3), d[0], over(8, 3), d[1], d[2]), 3},
		{"skip over a skip", joined(over(8, 1), over(8, 3), d[0], d[1]), 12},
		{"loop once", joined(d[0], turns(3, 1), d[1], d[2]), 123},
		{"loop twice", joined(d[0], turns(3, 2), d[1], d[2]), 1223},
		{"loop two twice", joined(turns(6, 2), d[1], d[2], d[0]), 23231},
		{"loop to the end", joined(d[0], turns(6, 3), d[1], d[2]), 1232323},
		{"two loops", joined(turns(3, 3), d[0], turns(3, 2), d[1], d[2]), 111223},
		{"two loops apart", joined(turns(3, 2), d[0], d[2], turns(3, 3), d[1]), 113222},
		{"eight turns", joined(turns(3, 8), d[0], d[1]), 111111112},
		{"Stop in a loop", joined(d[0], turns(4, 3), d[1], stop, d[2]), 12},
		{"Stop first in a loop", joined(d[0], turns(4, 3), stop, d[1], d[2]), 1},
		{"Stop in the second loop", joined(turns(3, 2), d[0], turns(4, 3), d[1], stop, d[2]), 112},
		{"Stop behind a loop", joined(turns(3, 2), d[0], stop, d[1]), 11},
		{"Stop in the third turn", joined(turns(7, 5), d[0], countdown, isLast, stop, d[1]), 111},
		{"skip a Stop in a loop", joined(turns(5, 3), d[0], over(8, 1), stop, d[1]), 1112},
		{"skip in a loop", joined(turns(7, 2), d[0], over(8, 3), d[1], d[2]), 113},
		{"do not skip in a loop", joined(turns(7, 2), d[0], over(9, 3), d[1], d[2]), 12123},
		{"skip within a loop", joined(turns(10, 2), d[0], over(8, 3), d[1], d[2], d[3]), 13134},
		{"skip the body", joined(d[0], turns(4, 3), over(8, 3), d[1], d[2]), 13},
		{"skip in the third turn", joined(turns(5, 5), countdown, over(10, 3), d[0], d[1]), 11112},
		{"skip to a loop", joined(over(8, 3), d[0], turns(3, 2), d[1]), 22},
		{"skip over a loop", joined(over(8, 4), turns(3, 3), d[0], d[1]), 2},
		{"do not skip over a loop", joined(over(9, 4), turns(3, 3), d[0], d[1]), 1112},
		{"skip over two loops", joined(over(8, 8), turns(3, 3), d[0], turns(3, 3), d[1], d[2]), 3},
		{"skip over a loop to the end", joined(d[1], over(8, 4), turns(3, 3), d[0]), 2},
		{"skip behind a loop", joined(turns(3, 2), d[0], over(8, 3), d[1], d[2]), 113},
		{"skip to the end of all in a loop", joined(turns(7, 3), d[0], over(8, 3), d[1]), 111},
		{"skip to the end of a loop before another", joined(turns(7, 2), d[0], over(8, 3), d[1], turns(3, 2), d[2]), 1133},
		{"divide by 2 and by 1", joined(turns(5, 2), d[0], countdown, divide(10)), 11},
	} {
		b := play.Body{Takes: longs(8), Program: c.p}
		wantPlay(t, c.what, b, play.State{}, numbers(0, 1, 3, 0, 0, 0, 0, 10), play.State{c.want}, num(0))
	}
}

// Errors before, in and behind Loops, with the same registers.
func TestP11_2Errors(t *testing.T) {
	d := digits(1)
	stop := prog.Program{{}}
	countdown := prog.Program{{Op: prog.Sub, Dst: 10, A: 10, B: 9}}
	isLast := prog.Program{{Op: prog.Less, Dst: 11, A: 10, B: 9}}
	for _, c := range []struct {
		what   string
		p      prog.Program
		e      api.Errno
		raised int
	}{
		{"Raise", joined(d[0], raise(9), stop), api.ErrRaised, 4},
		{"Raise first", joined(raise(9), divide(8)), api.ErrRaised, 4},
		{"Raise last", joined(d[0], raise(9)), api.ErrRaised, 4},
		{"Raise in a loop", joined(turns(4, 3), d[0], raise(9)), api.ErrRaised, 4},
		{"Raise in the third turn", joined(turns(5, 3), d[0], countdown, isLast, raise(11), stop), api.ErrRaised, 4},
		{"Raise behind a loop", joined(turns(3, 3), d[0], raise(9)), api.ErrRaised, 4},
		{"no skip over Raise", joined(over(9, 1), raise(9), d[0]), api.ErrRaised, 4},
		{"divide by 0", joined(d[0], divide(8), stop), api.ErrFault, 0},
		{"divide by 0 first", joined(divide(8), raise(9)), api.ErrFault, 0},
		{"divide by 0 last", joined(d[0], divide(8)), api.ErrFault, 0},
		{"divide by 0 in a loop", joined(turns(4, 3), d[0], divide(8), stop), api.ErrFault, 0},
		{"divide by 0 in the third turn", joined(turns(5, 3), d[0], countdown, divide(10), stop), api.ErrFault, 0},
		{"divide by 0 behind a loop", joined(turns(3, 3), d[0], divide(8)), api.ErrFault, 0},
	} {
		b := play.Body{Takes: longs(8), Program: c.p}
		wantError(t, c.what, b, state, numbers(0, 1, 3, 0, 0, 0, 0, 10), c.e, c.raised)
	}
}
