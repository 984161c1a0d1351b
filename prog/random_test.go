package prog_test

import (
	"math"
	"math/rand"
	"slices"
	"testing"

	"prompter/api"
	"prompter/prog"
)

// loops returns for each place, and some more behind the end, the Loops in
// whose bodies it is.
func loops(p prog.Program) [][]int {
	around := make([][]int, len(p)+256)
	for i, x := range p {
		if x.Op == prog.Loop {
			for k := range int(x.B) {
				around[i+1+k] = append(around[i+1+k], i)
			}
		}
	}
	return around
}

// allowed reports whether the Skip at i may lead to target, among n
// instructions with these Loops around them, of which those before i are as
// they have to be.
func allowed(around [][]int, n, i, target int) bool {
	if target <= i+1 || target > n {
		return false
	}
	if len(around[i]) == 0 {
		return len(around[target]) == 0
	}
	// In the body, or directly behind its last instruction.
	for _, place := range []int{target, target - 1} {
		if len(around[place]) > 0 && around[place][0] == around[i][0] {
			return true
		}
	}
	return false
}

// reference is Check in another way: all errors of an instruction are there
// with their rank, and the first counts.
func reference(p prog.Program) api.Errno {
	if len(p) > 24 {
		return api.ErrMany
	}
	around := loops(p)
	for i, x := range p {
		isLoop, isSkip := x.Op == prog.Loop, x.Op == prog.Skip
		n := int(x.N)
		for _, fault := range []struct {
			is bool
			e  api.Errno
		}{
			{x.Op > prog.Sum, api.ErrKind},
			{x.Dst > 15 || x.A > 15, api.ErrRange},
			{x.B > 15 && !isLoop, api.ErrRange},
			{isLoop && len(around[i]) > 0, api.ErrForm},
			{isLoop && x.B == 0, api.ErrForm},
			{isLoop && i+1+int(x.B) > len(p), api.ErrForm},
			{isLoop && (n < 1 || n > 8), api.ErrForm},
			{isSkip && !allowed(around, len(p), i, i+1+n), api.ErrForm},
			{x.Op == prog.Raise && n < 0, api.ErrRange},
		} {
			if fault.is {
				return fault.e
			}
		}
	}
	if executed(p) > 200 {
		return api.ErrSize
	}
	return api.OK
}

// executed is Fuel in another way: the body of a Loop once more for each turn
// after the first.
func executed(p prog.Program) int {
	many := len(p)
	for _, x := range p {
		for turn := 2; x.Op == prog.Loop && turn <= int(x.N); turn++ {
			many += int(x.B)
		}
	}
	return many
}

func wantAsReference(t *testing.T, p prog.Program) {
	t.Helper()
	wantCheck(t, "a program", p, reference(p))
	wantFuel(t, "a program", p, executed(p))
}

// All programs of up to five instructions out of some that jump or are wrong.
func TestP10_1AllShort(t *testing.T) {
	some := []prog.Instr{{}, {Dst: 16}, skip(0), skip(1), skip(2), skip(3), skip(4), loop(0, 1), loop(1, 1), loop(2, 2), loop(3, 8), loop(4, 1), {prog.Loop, 16, 0, 1, 1}, loop(2, 9)}
	var extend func(p prog.Program)
	extend = func(p prog.Program) {
		wantAsReference(t, p)
		if len(p) == 5 || t.Failed() {
			return
		}
		for _, x := range some {
			extend(append(p, x))
		}
	}
	extend(make(prog.Program, 0, 5))
}

// Many of these programs are as they have to be, also long ones that jump.
func TestP10_1Random(t *testing.T) {
	r := rand.New(rand.NewSource(10))
	many, long := map[api.Errno]int{}, 0
	for range 100000 {
		p := randomProgram(r)
		wantAsReference(t, p)
		many[p.Check()]++
		if p.Check() == api.OK && len(p) > 12 && has(p, prog.Loop) && has(p, prog.Skip) {
			long++
		}
		if t.Failed() {
			return
		}
	}
	for _, e := range []api.Errno{api.OK, api.ErrMany, api.ErrKind, api.ErrRange, api.ErrForm} {
		if many[e] < 1000 {
			t.Errorf("only %d programs with error %d", many[e], e)
		}
	}
	if long < 1000 {
		t.Errorf("only %d long programs with Skips and Loops", long)
	}
	if many[api.ErrSize] > 0 {
		t.Error("ErrSize, of which there is none")
	}
}

func has(p prog.Program, op prog.Op) bool {
	return slices.ContainsFunc(p, func(x prog.Instr) bool { return x.Op == op })
}

// randomProgram returns a program of which few instructions have an error.
func randomProgram(r *rand.Rand) prog.Program {
	p := make(prog.Program, r.Intn(26))
	for i := range p {
		x := prog.Instr{prog.Op(r.Intn(12)), uint8(r.Intn(16)), uint8(r.Intn(16)), uint8(r.Intn(16)), int16(r.Intn(30))}
		switch x.Op {
		case prog.Skip:
			x.N = int16(1 + r.Intn(max(1, min(6, len(p)-i))))
		case prog.Loop:
			x.B, x.N = uint8(1+r.Intn(max(1, min(8, len(p)-i)))), int16(1+r.Intn(8))
		}
		p[i] = x
	}
	if len(p) > 0 && r.Intn(2) == 0 {
		spoil(r, &p[r.Intn(len(p))])
	}
	for i := nested(p); i >= 0 && r.Intn(8) > 0; i = nested(p) {
		p[i].Op = prog.Move
	}
	return p
}

// spoil changes one field of an instruction.
func spoil(r *rand.Rand, x *prog.Instr) {
	switch r.Intn(5) {
	case 0:
		x.Op = prog.Op(r.Intn(256))
	case 1:
		x.Dst = uint8(r.Intn(256))
	case 2:
		x.A = uint8(r.Intn(256))
	case 3:
		x.B = uint8(r.Intn(256))
	case 4:
		x.N = []int16{0, -1, 7, 8, 9, 23, 24, int16(r.Uint32()), math.MinInt16, math.MaxInt16}[r.Intn(10)]
	}
}

// nested returns the first Loop that is in another's body, or -1.
func nested(p prog.Program) int {
	around := loops(p)
	for i, x := range p {
		if x.Op == prog.Loop && len(around[i]) > 0 {
			return i
		}
	}
	return -1
}
