package prog_test

import (
	"math"
	"testing"

	"prompter/api"
	"prompter/prog"
)

func TestP10_1ErrMany(t *testing.T) {
	for n := range 60 {
		want := api.OK
		if n > 24 {
			want = api.ErrMany
		}
		wantCheck(t, "instructions", make(prog.Program, n), want)
		wantCheck(t, "instructions", plain(n), want)
	}
	wantCheck(t, "instructions", plain(1<<16), api.ErrMany)
	wantCheck(t, "instructions", append(plain(23), skip(1)), api.ErrForm) // nothing is there to skip
	wantCheck(t, "instructions", append(plain(22), skip(1), prog.Instr{}), api.OK)
	wantCheck(t, "instructions", append(plain(22), loop(1, 8), prog.Instr{}), api.OK)
}

// Each number of an op, alone and at each place.
func TestP10_1ErrKind(t *testing.T) {
	for op := range 256 {
		want := api.OK
		if op >= 12 {
			want = api.ErrKind
		}
		x := prog.Instr{Op: prog.Op(op), B: 1, N: 1}
		wantCheck(t, "an op", prog.Program{x, {}}, want)
		for i := range 23 {
			wantCheck(t, "an op", with(24, i, x), want)
		}
		if op != int(prog.Skip) && op != int(prog.Loop) {
			wantCheck(t, "an op", with(24, 23, x), want)
			wantCheck(t, "an op in a body", prog.Program{loop(1, 1), x}, want)
		}
	}
}

// Each register, also where the op does not use it.
func TestP10_1ErrRange(t *testing.T) {
	for n := range 256 {
		want, body := api.OK, api.OK
		if n > 15 {
			want = api.ErrRange
		}
		if n < 1 || n > 23 {
			body = api.ErrForm // of a Loop at the first of 24
		}
		for op := range prog.Ops {
			x := prog.Instr{op, 15, 15, 15, 1}
			x.Dst = uint8(n)
			wantCheck(t, "dst", with(24, 0, x), want)
			x.Dst, x.A = 15, uint8(n)
			wantCheck(t, "a", with(24, 0, x), want)
			x.A, x.B = 15, uint8(n)
			if op == prog.Loop {
				wantCheck(t, "the length of a body", with(24, 0, x), body)
			} else {
				wantCheck(t, "b", with(24, 0, x), want)
				wantCheck(t, "b in a body", append(prog.Program{loop(2, 1)}, with(2, 0, x)...), want)
			}
		}
		for i := range 24 {
			wantCheck(t, "dst at a place", with(24, i, prog.Instr{Dst: uint8(n)}), want)
			wantCheck(t, "a at a place", with(24, i, prog.Instr{A: uint8(n)}), want)
			wantCheck(t, "b at a place", with(24, i, prog.Instr{B: uint8(n)}), want)
		}
	}
}

// Every N, of each op.
func TestP10_1EveryN(t *testing.T) {
	for n := math.MinInt16; n <= math.MaxInt16; n++ {
		for op := range prog.Ops {
			want := api.OK
			switch {
			case op == prog.Raise && n < 0:
				want = api.ErrRange
			case op == prog.Loop && (n < 1 || n > 8), op == prog.Skip && (n < 1 || n > 23):
				want = api.ErrForm
			}
			p := make(prog.Program, 24)
			p[0] = prog.Instr{op, 3, 4, 5, int16(n)}
			wantCheck(t, "a number", p, want)
		}
	}
}

// Each length of a body, from each place of programs of each length.
func TestP10_1LoopEnd(t *testing.T) {
	for n := 1; n <= 24; n++ {
		for i := range n {
			for b := range 256 {
				want := api.OK
				if b == 0 || i+b >= n {
					want = api.ErrForm
				}
				wantCheck(t, "a loop", with(n, i, loop(uint8(b), 8)), want)
			}
		}
	}
}

// A second Loop at each place: it may only be before or behind the first body.
func TestP10_1LoopNested(t *testing.T) {
	const n = 24
	for i := range n {
		for b := 1; i+b < n; b++ {
			for j := i + 1; j < n-1; j++ {
				want := api.OK
				if j <= i+b {
					want = api.ErrForm
				}
				p := with(n, i, loop(uint8(b), 2))
				for c := 1; j+c < n; c++ {
					p[j] = loop(uint8(c), 3)
					wantCheck(t, "a second loop", p, want)
				}
				p[j] = loop(uint8(n-j), 3)
				wantCheck(t, "a second loop that is too long", p, api.ErrForm)
			}
		}
	}
	one := prog.Instr{}
	wantCheck(t, "loops behind each other", prog.Program{loop(1, 2), one, loop(1, 2), one, loop(2, 2), one, one, loop(1, 2), one}, api.OK)
	wantCheck(t, "a loop in the third body", prog.Program{loop(1, 2), one, loop(1, 2), one, loop(2, 2), one, loop(1, 2), one}, api.ErrForm)
	wantCheck(t, "a loop at the end of a body", prog.Program{loop(2, 2), one, loop(1, 2), one}, api.ErrForm)
}

// Skips of every length, without Loops.
func TestP10_1Skip(t *testing.T) {
	for n := 1; n <= 24; n++ {
		for i := range n {
			for m := -30; m <= 30; m++ {
				want := api.OK
				if m < 1 || i+1+m > n {
					want = api.ErrForm
				}
				wantCheck(t, "a skip", with(n, i, skip(int16(m))), want)
			}
		}
	}
}

// Skips of every length from each place, with a Loop before, around or behind
// it.
func TestP10_1SkipLoop(t *testing.T) {
	const n = 12
	for first := 1; first < n; first++ { // of the body
		for end := first + 1; end <= n; end++ {
			for i := range n {
				for m := 1; m <= n; m++ {
					if i == first-1 {
						continue
					}
					target := i + 1 + m
					want := api.OK
					switch {
					case target > n:
						want = api.ErrForm
					case i >= first && i < end: // in the body
						if target > end {
							want = api.ErrForm
						}
					case target >= first && target < end: // into it
						want = api.ErrForm
					}
					p := with(n, i, skip(int16(m)))
					p[first-1] = loop(uint8(end-first), 4)
					wantCheck(t, "a skip", p, want)
				}
			}
		}
	}
}

// The borders that the chapter names, one by one.
func TestP10_1SkipBorders(t *testing.T) {
	one := prog.Instr{}
	cases := []struct {
		what string
		p    prog.Program
		want api.Errno
	}{
		{"to the next but one", prog.Program{skip(1), one, one}, api.OK},
		{"to the next", prog.Program{skip(0), one, one}, api.ErrForm},
		{"to itself", prog.Program{skip(-1), one, one}, api.ErrForm},
		{"back", prog.Program{one, one, one, skip(-2), one}, api.ErrForm},
		{"to the end", prog.Program{skip(2), one, one}, api.OK},
		{"beyond the end", prog.Program{skip(3), one, one}, api.ErrForm},
		{"to a loop", prog.Program{skip(1), one, loop(1, 2), one}, api.OK},
		{"to the first of a body", prog.Program{skip(1), loop(2, 2), one, one, one}, api.ErrForm},
		{"to the last of a body", prog.Program{skip(2), loop(2, 2), one, one, one}, api.ErrForm},
		{"over a loop", prog.Program{skip(3), loop(2, 2), one, one, one}, api.OK},
		{"over a loop to the end", prog.Program{skip(3), loop(2, 2), one, one}, api.OK},
		{"over two loops", prog.Program{skip(4), loop(1, 2), one, loop(1, 2), one, one}, api.OK},
		{"over a loop into another", prog.Program{skip(3), loop(1, 2), one, loop(1, 2), one, one}, api.ErrForm},
		{"over a loop to another", prog.Program{skip(2), loop(1, 2), one, loop(1, 2), one, one}, api.OK},
		{"within a body", prog.Program{loop(3, 2), skip(1), one, one, one}, api.OK},
		{"to the end of the body", prog.Program{loop(3, 2), skip(2), one, one, one}, api.OK},
		{"out of the body", prog.Program{loop(3, 2), skip(3), one, one, one}, api.ErrForm},
		{"to the end of the body and of all", prog.Program{loop(3, 2), skip(2), one, one}, api.OK},
		{"to the end of the body, a loop", prog.Program{loop(2, 2), skip(1), one, loop(1, 2), one}, api.OK},
		{"into the next body", prog.Program{loop(2, 2), skip(2), one, loop(1, 2), one}, api.ErrForm},
		{"out of the last of a body", prog.Program{loop(2, 2), one, skip(1), one, one}, api.ErrForm},
		{"behind a body", prog.Program{loop(2, 2), one, one, skip(1), one, one}, api.OK},
		{"behind a body into the next", prog.Program{loop(1, 2), one, skip(1), loop(1, 2), one}, api.ErrForm},
		{"of the longest", prog.Program{skip(math.MaxInt16), one}, api.ErrForm},
		{"of the shortest", prog.Program{one, one, skip(math.MinInt16), one}, api.ErrForm},
	}
	for _, c := range cases {
		wantCheck(t, c.what, c.p, c.want)
	}
}

// faulty returns programs with one error each: that of the instruction that
// stands for 0, with what follows it.
func faulty() map[api.Errno][]prog.Program {
	return map[api.Errno][]prog.Program{
		api.ErrKind:  {{{prog.Ops, 0, 0, 0, 0}}, {{255, 99, 99, 99, -1}}},
		api.ErrRange: {{{Dst: 16}}, {{A: 16}}, {{B: 16}}, {{Op: prog.Raise, N: -1}}, {{Op: prog.Skip, B: 16, N: -1}}, {{Op: prog.Loop, A: 16}}},
		api.ErrForm:  {{skip(0)}, {skip(9)}, {loop(0, 1)}, {loop(1, 0), {}}, {loop(1, 9), {}}, {loop(9, 1)}, {loop(2, 1), loop(1, 1), {}}, {skip(1), loop(1, 1), {}}, {loop(1, 1), skip(1), {}}},
	}
}

// R2: of two instructions with errors, that of the first counts.
func TestR2Instructions(t *testing.T) {
	for want, first := range faulty() {
		for _, later := range faulty() {
			for _, p := range first {
				wantCheck(t, "an error", p, want)
				for _, q := range later {
					all := append(plain(2), p...)
					all = append(all, plain(2)...) // what a skip of 9 must not reach the end of
					if all = append(all, q...); len(all) < 12 {
						wantCheck(t, "two errors", all, want)
					}
				}
			}
		}
	}
}

// R2: of the errors of one instruction, the first that the chapter names.
func TestR2OneInstruction(t *testing.T) {
	cases := []struct {
		x    prog.Instr
		want api.Errno
	}{
		{prog.Instr{12, 16, 0, 0, 0}, api.ErrKind},
		{prog.Instr{12, 0, 16, 0, 0}, api.ErrKind},
		{prog.Instr{12, 0, 0, 16, -1}, api.ErrKind},
		{prog.Instr{255, 255, 255, 255, -1}, api.ErrKind},
		{prog.Instr{prog.Loop, 16, 0, 0, 0}, api.ErrRange},
		{prog.Instr{prog.Loop, 0, 16, 200, 9}, api.ErrRange},
		{prog.Instr{prog.Loop, 0, 0, 16, 9}, api.ErrForm},
		{prog.Instr{prog.Loop, 0, 0, 255, 1}, api.ErrForm},
		{prog.Instr{prog.Loop, 0, 0, 0, -1}, api.ErrForm},
		{prog.Instr{prog.Skip, 16, 0, 0, 0}, api.ErrRange},
		{prog.Instr{prog.Skip, 0, 16, 0, 99}, api.ErrRange},
		{prog.Instr{prog.Skip, 0, 0, 16, -1}, api.ErrRange},
		{prog.Instr{prog.Skip, 0, 0, 15, -1}, api.ErrForm},
		{prog.Instr{prog.Raise, 0, 16, 0, -1}, api.ErrRange},
		{prog.Instr{prog.Raise, 0, 0, 0, -1}, api.ErrRange},
	}
	for _, c := range cases {
		wantCheck(t, "an instruction", prog.Program{c.x}, c.want)
		wantCheck(t, "an instruction", with(9, 2, c.x), c.want)
		wantCheck(t, "one too many", append(plain(24), c.x), api.ErrMany)
	}
}

// R2: a Skip's error does not wait for those of what it leads into, or over.
func TestR2SkipFirst(t *testing.T) {
	one, wrong := prog.Instr{}, prog.Instr{Dst: 16}
	cases := []struct {
		what string
		p    prog.Program
		want api.Errno
	}{
		{"into a body behind an error", prog.Program{skip(2), wrong, loop(1, 1), one}, api.ErrForm},
		{"over an error", prog.Program{skip(1), wrong, loop(1, 1), one}, api.ErrRange},
		{"into the body of a loop with an error", prog.Program{skip(1), {prog.Loop, 16, 0, 1, 1}, one}, api.ErrForm},
		{"over a loop with an error", prog.Program{skip(2), {prog.Loop, 16, 0, 1, 1}, one}, api.ErrRange},
		{"over an empty body", prog.Program{skip(1), {prog.Loop, 16, 0, 0, 1}, one}, api.ErrRange},
		{"into a body without turns", prog.Program{skip(2), wrong, loop(1, 0), one}, api.ErrForm},
		{"into a body that is too long", prog.Program{skip(2), wrong, loop(200, 1), one}, api.ErrForm},
		{"to the end, in a body that is too long", prog.Program{skip(3), wrong, loop(200, 1), one}, api.ErrForm},
		{"to the end, beyond a body", prog.Program{skip(3), wrong, loop(1, 1), one}, api.ErrRange},
		{"into a body in another", prog.Program{skip(4), wrong, loop(1, 1), loop(2, 1), one, one, one}, api.ErrForm},
		{"beyond the end, over an error", prog.Program{skip(4), wrong, one, one}, api.ErrForm},
		{"out of a body, over an error", prog.Program{loop(2, 1), skip(2), wrong, one}, api.ErrForm},
	}
	for _, c := range cases {
		wantCheck(t, c.what, c.p, c.want)
	}
}

// The other errors leave no program with more Fuel than this, so none is left
// for ErrSize (above 200): a Loop needs one instruction, and others in its
// body, which it executes 8 times at most.
func TestP10_1MostFuel(t *testing.T) {
	p := with(24, 0, loop(23, 8))
	wantCheck(t, "the greatest loop", p, api.OK)
	wantFuel(t, "the greatest loop", p, 24+23*7)
	for split := 1; split < 22; split++ {
		p := with(24, 0, loop(uint8(split), 8))
		p[split+1] = loop(uint8(22-split), 8)
		wantCheck(t, "two loops", p, api.OK)
		wantFuel(t, "two loops", p, 24+22*7)
	}
}
