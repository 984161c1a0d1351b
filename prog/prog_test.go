package prog_test

import (
	"math"
	"slices"
	"testing"

	"prompter/api"
	"prompter/prog"
)

// plain returns n instructions without errors that do not jump.
func plain(n int) prog.Program {
	var p prog.Program
	for i := range n {
		p = append(p, prog.Instr{prog.Add, uint8(i % 16), uint8(15 - i%16), 3, int16(-i)})
	}
	return p
}

// with returns n plain instructions, but for x at place i.
func with(n, i int, x prog.Instr) prog.Program {
	p := plain(n)
	p[i] = x
	return p
}

func loop(body uint8, n int16) prog.Instr {
	return prog.Instr{Op: prog.Loop, B: body, N: n}
}

func skip(n int16) prog.Instr {
	return prog.Instr{Op: prog.Skip, A: 9, N: n}
}

// wantCheck checks what Check returns.
func wantCheck(t *testing.T, what string, p prog.Program, want api.Errno) {
	t.Helper()
	if got := p.Check(); got != want {
		t.Errorf("%s: error %d, want %d: %v", what, got, want, p)
	}
}

// wantFuel checks what Fuel returns.
func wantFuel(t *testing.T, what string, p prog.Program, want int) {
	t.Helper()
	if got := p.Fuel(); got != want {
		t.Errorf("%s: fuel %d, want %d: %v", what, got, want, p)
	}
}

func TestP10_1Types(t *testing.T) {
	ops := []prog.Op{prog.Stop, prog.Set, prog.Move, prog.Add, prog.Sub, prog.Mul, prog.Div, prog.Less, prog.Skip, prog.Loop, prog.Raise, prog.Sum, prog.Ops}
	for i, op := range ops {
		if int(op) != i {
			t.Errorf("op %d is %d", i, op)
		}
	}
	var op uint8 = uint8(prog.Ops)
	var dst, a, b uint8 = 1, 2, 3
	var n int16 = -4
	p := prog.Program([]prog.Instr{{prog.Op(op), dst, a, b, n}})
	if p[0] != (prog.Instr{Op: 12, Dst: 1, A: 2, B: 3, N: -4}) {
		t.Errorf("%v", p[0])
	}
}

// Each op, with the least and the greatest that its instruction may have.
func TestP10_1EveryOp(t *testing.T) {
	for op := range prog.Ops {
		if op == prog.Skip || op == prog.Loop {
			continue
		}
		for _, n := range []int16{0, 1, 8, 9, 24, math.MaxInt16} {
			wantCheck(t, "one instruction", prog.Program{{op, 0, 0, 0, n}}, api.OK)
			wantCheck(t, "one instruction", prog.Program{{op, 15, 15, 15, n}}, api.OK)
			wantFuel(t, "one instruction", prog.Program{{op, 15, 15, 15, n}}, 1)
			if op != prog.Raise {
				wantCheck(t, "one instruction", prog.Program{{op, 1, 2, 3, -n - 1}}, api.OK)
			}
		}
	}
	wantCheck(t, "a skip", prog.Program{{prog.Skip, 15, 15, 15, 1}, {}}, api.OK)
	wantCheck(t, "a loop", prog.Program{{prog.Loop, 15, 15, 1, 8}, {}}, api.OK)
}

// Programs as they are written for procedures.
func TestP10_1Ordinary(t *testing.T) {
	counts := prog.Program{{prog.Add, 0, 0, 8, 0}}
	wantCheck(t, "what counts", counts, api.OK)
	wantFuel(t, "what counts", counts, 1)
	takes := prog.Program{
		{prog.Less, 9, 0, 8, 0},   // is the state less than the argument?
		{prog.Raise, 0, 9, 0, 77}, // then an error
		{prog.Sub, 0, 0, 8, 0},
		{prog.Move, 8, 0, 0, 0},
		{prog.Stop, 0, 0, 0, 0},
	}
	wantCheck(t, "what takes", takes, api.OK)
	wantFuel(t, "what takes", takes, 5)
	powers := prog.Program{
		{prog.Set, 10, 0, 0, -1},
		{prog.Less, 11, 10, 8, 0},
		{prog.Skip, 0, 11, 0, 6}, // to Sum, over the loop
		{prog.Loop, 0, 0, 4, 8},
		{prog.Less, 9, 12, 8, 0},
		{prog.Skip, 0, 9, 0, 2}, // to the end of the body
		{prog.Mul, 8, 8, 8, 0},
		{prog.Add, 12, 12, 10, 0},
		{prog.Skip, 0, 8, 0, 1}, // to the second loop
		{prog.Sum, 13, 0, 0, 0},
		{prog.Loop, 0, 0, 2, 3},
		{prog.Div, 14, 13, 10, 0},
		{prog.Move, 13, 14, 0, 0},
		{prog.Skip, 0, 0, 0, 1}, // to the end
		{prog.Stop, 0, 0, 0, 0},
	}
	wantCheck(t, "what multiplies", powers, api.OK)
	wantFuel(t, "what multiplies", powers, 15+4*7+2*2)
	for place, n := range map[int]int16{2: 8, 5: 3, 8: 3, 13: 2} {
		further := slices.Clone(powers)
		further[place].N = n
		wantCheck(t, "what skips too far", further, api.ErrForm)
	}
}

func TestP10_1Fuel(t *testing.T) {
	cases := []struct {
		p    prog.Program
		want int
	}{
		{nil, 0}, // the chapter's example
		{prog.Program{}, 0},
		{prog.Program{{}}, 1},
		{plain(24), 24},
		{prog.Program{loop(1, 1), {}}, 2},
		{prog.Program{loop(1, 2), {}}, 3},
		{prog.Program{loop(1, 8), {}}, 9},
		{prog.Program{loop(3, 5), {}, {}, {}}, 16},
		{prog.Program{{}, loop(3, 5), {}, {}, {}, {}}, 18},
		{prog.Program{loop(1, 3), {}, loop(2, 4), {}, {}}, 5 + 2 + 6},
		{prog.Program{loop(1, 3), {}, {}, loop(2, 4), {}, {}, loop(1, 1), {}}, 8 + 2 + 6},
		{prog.Program{{prog.Loop, 15, 15, 2, 7}, skip(1), {}}, 3 + 12}, // a Skip takes nothing away
		{prog.Program{loop(2, 7), {}, {}, {prog.Stop, 0, 0, 15, 8}}, 4 + 12},
	}
	for _, c := range cases {
		wantCheck(t, "a program", c.p, api.OK)
		wantFuel(t, "a program", c.p, c.want)
	}
}

// Fuel of programs that are not valid follows the same rule.
func TestP10_1FuelOfAny(t *testing.T) {
	for _, n := range []int16{math.MinInt16, -9, -1, 0, 1, 2, 8, 9, 255, 256, math.MaxInt16} {
		turns := int(n)
		if turns < 1 {
			turns = 1
		}
		for b := range 256 {
			want := 1 + b*(turns-1)
			wantFuel(t, "a loop", prog.Program{loop(uint8(b), n)}, want)
			wantFuel(t, "a loop", prog.Program{{prog.Loop, 255, 255, uint8(b), n}}, want)
			wantFuel(t, "a loop between others", with(9, 4, loop(uint8(b), n)), want+8)
			wantFuel(t, "two loops", prog.Program{loop(uint8(b), n), loop(uint8(b), n)}, 2*want)
			wantFuel(t, "three loops", prog.Program{loop(uint8(b), n), loop(2, 3), loop(1, 2), {}}, want+3+4+1)
			for op := range 256 {
				if op != int(prog.Loop) {
					wantFuel(t, "no loop", prog.Program{{prog.Op(op), 0, 0, uint8(b), n}}, 1)
				}
			}
		}
	}
	wantFuel(t, "many instructions", plain(1000), 1000)
	var loops prog.Program
	for range 1 << 16 {
		loops = append(loops, loop(255, math.MaxInt16))
	}
	wantFuel(t, "many loops", loops, 1<<16+255*32766<<16)
}
