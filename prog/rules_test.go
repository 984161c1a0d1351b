package prog_test

import (
	"math/rand"
	"slices"
	"testing"

	"prompter/api"
	"prompter/prog"
)

// P1: programs of arbitrary bytes, and very long ones.
func TestP1(t *testing.T) {
	r := rand.New(rand.NewSource(1))
	for range 100000 {
		p := make(prog.Program, r.Intn(40))
		for i := range p {
			p[i] = prog.Instr{prog.Op(r.Intn(256)), uint8(r.Intn(256)), uint8(r.Intn(256)), uint8(r.Intn(256)), int16(r.Uint32())}
			if r.Intn(2) == 0 {
				p[i] = prog.Instr{prog.Skip + prog.Op(r.Intn(2)), uint8(r.Intn(16)), uint8(r.Intn(16)), uint8(r.Intn(16)), int16(r.Uint32())}
			}
		}
		wantAsReference(t, p)
	}
	for _, x := range []prog.Instr{{}, skip(1), loop(255, 8), {255, 255, 255, 255, -1}} {
		wantCheck(t, "many instructions", slices.Repeat(prog.Program{x}, 1<<20), api.ErrMany)
	}
}

// R5, R7: a nil program is one without instructions.
func TestR5(t *testing.T) {
	for _, p := range []prog.Program{nil, {}, plain(3)[:0]} {
		wantCheck(t, "no instructions", p, api.OK)
		wantFuel(t, "no instructions", p, 0)
	}
}

// R6: programs are not changed, also not behind their end.
func TestR6(t *testing.T) {
	r := rand.New(rand.NewSource(6))
	for range 20000 {
		all := append(randomProgram(r), randomProgram(r)...)
		before := slices.Clone(all)
		p := all[:r.Intn(len(all)+1)]
		p.Check()
		p.Fuel()
		if !slices.Equal(all, before) {
			t.Fatalf("%v was changed to %v", before, all)
		}
	}
}

// R6, R8: what is behind a program's end, or in place of it later, does not
// matter.
func TestR8(t *testing.T) {
	p := append(plain(2), loop(2, 5), prog.Instr{}, prog.Instr{}, prog.Instr{})
	for range 2 {
		wantCheck(t, "the whole", p, api.OK)
		wantFuel(t, "the whole", p, 14)
		wantCheck(t, "up to the body's end", p[:5], api.OK)
		wantCheck(t, "without the body's end", p[:4], api.ErrForm)
		wantFuel(t, "without the body's end", p[:4], 12)
		p[2].N = 9
		wantCheck(t, "changed", p, api.ErrForm)
		wantFuel(t, "changed", p, 22)
		p[2].N = 5
	}
}

// R8: nothing but the program matters: not what was asked before, nor who
// else asks.
func TestR8Together(t *testing.T) {
	r := rand.New(rand.NewSource(8))
	var programs []prog.Program
	for range 2000 {
		programs = append(programs, randomProgram(r))
	}
	done := make(chan bool)
	for range 4 {
		order := r.Perm(len(programs))
		go func() {
			defer func() { done <- true }()
			for _, i := range order {
				wantAsReference(t, programs[i])
			}
		}()
	}
	for range 4 {
		<-done
	}
}
