package play

import (
	"prompter/api"
	"prompter/prog"
)

// machine is what a program works on.
type machine struct {
	registers [api.Registers]int64
	numbers   []int64 // of the arguments
}

// load returns a machine with the state in its first registers, and in the
// others as many of the numbers as these hold.
func load(s State, numbers []int64) machine {
	m := machine{numbers: numbers}
	copy(m.registers[:api.States], s[:])
	copy(m.registers[api.States:], numbers)
	return m
}

// execute executes the instructions of a valid program, or of a body in it, up
// to the end or a Stop, and reports whether that was a Stop. Since no Skip
// leads out of a body, but at most to its end, a body needs no other
// instructions.
func (m *machine) execute(p prog.Program) (stopped bool) {
	for i := 0; i < len(p); i++ {
		switch x := p[i]; x.Op {
		case prog.Stop:
			return true
		case prog.Skip:
			if m.registers[x.A] == 0 {
				i += int(x.N)
			}
		case prog.Loop:
			length := int(x.B)
			if m.repeat(p[i+1:i+1+length], int(x.N)) {
				return true
			}
			i += length
		case prog.Raise:
			if m.registers[x.A] != 0 {
				panic(failure{api.ErrRaised, int(x.N)})
			}
		default:
			m.registers[x.Dst] = m.result(x)
		}
	}
	return false
}

// repeat executes a body so many times, or up to a Stop, and reports whether
// there was one.
func (m *machine) repeat(body prog.Program, times int) (stopped bool) {
	for range times {
		if m.execute(body) {
			return true
		}
	}
	return false
}

// result returns what the instruction, which is none of those that jump or
// end the program, makes of the registers.
func (m *machine) result(x prog.Instr) int64 {
	a, b := m.registers[x.A], m.registers[x.B]
	switch x.Op {
	case prog.Set:
		return int64(x.N)
	case prog.Move:
		return a
	case prog.Add:
		return a + b
	case prog.Sub:
		return a - b
	case prog.Mul:
		return a * b
	case prog.Div:
		return quotient(a, b)
	case prog.Less:
		return truth(a < b)
	default: // Sum
		return sum(m.numbers)
	}
}

func quotient(a, b int64) int64 {
	if b == 0 {
		panic(failure{e: api.ErrFault})
	}
	return a / b
}

// truth returns the number that stands for what is true or false.
func truth(is bool) int64 {
	if is {
		return 1
	}
	return 0
}

func sum(numbers []int64) int64 {
	total := int64(0)
	for _, n := range numbers {
		total += n
	}
	return total
}
