package play_test

import (
	"math"
	"math/rand"
	"slices"
	"testing"

	"prompter/api"
	"prompter/kind"
	"prompter/play"
	"prompter/prog"
	"prompter/value"
)

// unrolled is a valid program without Loops: in place of each there are as many
// copies of its body as it has turns. Skips lead as far in the copies as in
// the body; others lead further, if there are copies between.
func unrolled(p prog.Program) prog.Program {
	first := make([]int, len(p)+1) // where each instruction's first copy is
	outside := map[int]int{}       // instructions that are in no body, and their places in p
	var all prog.Program
	for i := 0; i < len(p); i++ {
		first[i] = len(all)
		if p[i].Op != prog.Loop {
			outside[len(all)] = i
			all = append(all, p[i])
			continue
		}
		body := p[i+1:][:p[i].B]
		for range p[i].N {
			all = append(all, body...)
		}
		i += len(body)
	}
	first[len(p)] = len(all)
	for at, i := range outside {
		if p[i].Op == prog.Skip {
			all[at].N = int16(first[i+1+int(p[i].N)] - at - 1)
		}
	}
	return all
}

// reference is Play in another way: without Loops, and with calculations that
// know no limit.
func reference(b play.Body, s play.State, v value.Value) (play.State, play.Outcome) {
	if b.Program.Check() != api.OK {
		return s, play.Outcome{Err: api.ErrFault}
	}
	if value.Check(b.Takes, v) != api.OK {
		return s, play.Outcome{Err: api.ErrArgs}
	}
	flat, sum := value.Flat(b.Takes, v, 64), int64(0)
	r := make([]int64, 16)
	for i, n := range flat {
		if sum += n; i < 8 {
			r[8+i] = n
		}
	}
	for i := range s {
		r[i] = s[i]
	}
	e, raised := carriedOut(unrolled(b.Program), r, sum)
	answer := value.Build(b.Answers, r[8:])
	if e == api.OK && value.Check(b.Answers, answer) != api.OK {
		e = api.ErrFault
	}
	if e != api.OK {
		return s, play.Outcome{Err: e, Raised: raised}
	}
	return play.State(r[:8]), play.Outcome{Value: answer}
}

// carriedOut executes a program without Loops.
func carriedOut(p prog.Program, r []int64, sum int64) (api.Errno, int) {
	for len(p) > 0 {
		x := p[0]
		p = p[1:]
		switch {
		case x.Op == prog.Stop:
			p = nil
		case x.Op == prog.Set:
			r[x.Dst] = int64(x.N)
		case x.Op == prog.Sum:
			r[x.Dst] = sum
		case x.Op == prog.Skip && r[x.A] == 0:
			p = p[x.N:]
		case x.Op == prog.Raise && r[x.A] != 0:
			return api.ErrRaised, int(x.N)
		case slices.Contains(calculations, x.Op):
			n, ok := computed(x.Op, r[x.A], r[x.B])
			if !ok {
				return api.ErrFault, 0
			}
			r[x.Dst] = n
		}
	}
	return api.OK, 0
}

// wantAsReference checks an execution, and returns what it has to be.
func wantAsReference(t *testing.T, b play.Body, s play.State, v value.Value) (play.State, play.Outcome) {
	t.Helper()
	out, o := reference(b, s, v)
	want(t, "as the second interpreter", b, s, v, out, o)
	return out, o
}

// randomNumber returns a small number, or one at the border of a range.
func randomNumber(r *rand.Rand) int64 {
	switch r.Intn(4) {
	case 0:
		return int64(r.Intn(9) - 2)
	case 1:
		return int64(r.Uint64())
	case 2:
		return borders[r.Intn(len(borders))]
	}
	return 0
}

func randomState(r *rand.Rand) (s play.State) {
	for i := range s {
		s[i] = randomNumber(r)
	}
	return s
}

// randomProgram returns a program that is mostly valid.
func randomProgram(r *rand.Rand) prog.Program {
	p := make(prog.Program, r.Intn(25))
	free := 0 // up to where a body extends
	for i := range p {
		x := prog.Instr{Op: prog.Op(1 + r.Intn(11)), Dst: uint8(r.Intn(16)), A: uint8(r.Intn(16)), B: uint8(r.Intn(16)), N: int16(r.Intn(400) - 50)}
		switch {
		case x.Op == prog.Skip:
			x.N = int16(1 + r.Intn(4))
		case x.Op == prog.Loop && i >= free && i+1 < len(p):
			x.B, x.N = uint8(1+r.Intn(min(15, len(p)-i-1))), int16(1+r.Intn(8))
			free = i + 1 + int(x.B)
		case x.Op == prog.Loop, x.Op == prog.Raise && r.Intn(3) > 0:
			x.Op = prog.Less
		case x.Op == prog.Raise:
			x.N = max(x.N, -x.N)
		case r.Intn(60) == 0:
			x.Op = prog.Stop
		}
		p[i] = x
	}
	return p
}

// made returns a random program with its wrong Skips taken away, if that is
// enough to make it valid.
func made(r *rand.Rand) prog.Program {
	p := randomProgram(r)
	for i := range p {
		if p[i].Op == prog.Skip && p.Check() != api.OK {
			q := slices.Clone(p)
			q[i].Op = prog.Add
			if q.Check() == api.OK || r.Intn(2) == 0 {
				p = q
			}
		}
	}
	return p
}

// randomType returns a type that is right, but perhaps for its depth.
func randomType(r *rand.Rand, levels int) kind.Type {
	many := []int{1, 2, 3, 5, 12}[r.Intn(5)]
	k := kind.Kind(r.Intn(int(kind.Ref)))
	if levels < 2 && (k == kind.Seq || k == kind.Record || k == kind.Choice) {
		k = kind.Long
	}
	var parts []kind.Type
	for i := 0; i < many && (k == kind.Record || k == kind.Choice); i++ {
		parts = append(parts, randomType(r, levels-1))
	}
	switch k {
	case kind.Text:
		return text(1 + r.Intn(60))
	case kind.Seq:
		return seq(1+r.Intn(60), randomType(r, levels-1))
	case kind.Record:
		return record(parts...)
	case kind.Enum:
		return enum(many)
	case kind.Choice:
		return choice(parts...)
	}
	return plain(k)
}

// randomValue returns a value of x, with at most so many elements.
func randomValue(r *rand.Rand, x kind.Type, elements int) value.Value {
	switch x.Kind {
	case kind.Bool:
		return num(int64(r.Intn(2)))
	case kind.Card:
		return num(int64(r.Intn(65536)))
	case kind.Long:
		return num(int64(int32(r.Uint32())))
	case kind.Real:
		return float([]float64{0, negativeZero, 0.5, -7.5, 1e300, math.Inf(-1), math.NaN(), math.Float64frombits(0xfff0000000000007)}[r.Intn(8)])
	case kind.Text:
		return str(string(make([]byte, r.Intn(x.Most+1))))
	case kind.Enum:
		return num(int64(r.Intn(len(x.Names))))
	case kind.Choice:
		n := r.Intn(len(x.Of))
		return pick(int64(n), randomValue(r, x.Of[n], elements))
	}
	var v value.Value
	for range r.Intn(min(x.Most, elements) + 1) { // of a Seq
		v.Of = append(v.Of, randomValue(r, x.Of[0], elements/2))
	}
	for i := 0; x.Kind == kind.Record && i < len(x.Of); i++ {
		v.Of = append(v.Of, randomValue(r, x.Of[i], elements))
	}
	return v
}

// randomBody returns a body, a state and arguments, of which one is sometimes
// wrong.
func randomBody(r *rand.Rand) (play.Body, play.State, value.Value) {
	b := play.Body{Takes: randomType(r, 1+r.Intn(4)), Answers: randomType(r, 1+r.Intn(4)), Program: made(r)}
	v := randomValue(r, b.Takes, []int{0, 1, 3, 9, 60}[r.Intn(5)])
	switch r.Intn(40) {
	case 0:
		v = randomValue(r, randomType(r, 2), 3)
	case 1:
		b.Takes = withoutValues()[r.Intn(len(withoutValues()))]
	case 2:
		b.Answers = withoutValues()[r.Intn(len(withoutValues()))]
	case 3:
		b.Program = append(b.Program, notValid()[r.Intn(len(notValid()))]...)
	}
	return b, randomState(r), v
}

func TestP11_1Random(t *testing.T) {
	r := rand.New(rand.NewSource(11))
	many, changed, looped, skipped := map[api.Errno]int{}, 0, 0, 0
	has := func(p prog.Program, op prog.Op) bool {
		return slices.ContainsFunc(p, func(x prog.Instr) bool { return x.Op == op })
	}
	for range 100000 {
		b, s, v := randomBody(r)
		out, o := wantAsReference(t, b, s, v)
		if t.Failed() {
			return
		}
		many[o.Err]++
		if o.Err == api.OK && out != s {
			changed++
			if has(b.Program, prog.Loop) {
				looped++
			}
			if has(b.Program, prog.Skip) {
				skipped++
			}
		}
	}
	for _, e := range []api.Errno{api.OK, api.ErrFault, api.ErrArgs, api.ErrRaised} {
		if many[e] < 2000 {
			t.Errorf("only %d executions with error %d", many[e], e)
		}
	}
	if len(many) > 4 || changed < 10000 || looped < 3000 || skipped < 3000 {
		t.Errorf("errors %v; %d states changed, %d of them with Loops, %d with Skips", many, changed, looped, skipped)
	}
}

// All programs of up to four instructions out of some.
func TestP11_2AllShort(t *testing.T) {
	some := []prog.Instr{
		{}, set(8, 0), set(0, -3), {Op: prog.Sub, Dst: 8, A: 8, B: 9}, {Op: prog.Mul, Dst: 0, A: 0, B: 10}, {Op: prog.Add, Dst: 10, A: 8, B: 10}, {Op: prog.Div, Dst: 1, A: 10, B: 8},
		skip(8, 1), skip(10, 2), loop(1, 2), loop(2, 3), loop(3, 8), {Op: prog.Raise, A: 0, N: 2}, {Op: prog.Less, Dst: 9, A: 8, B: 10}, {Op: prog.Sum, Dst: 10},
	}
	b := play.Body{Takes: longs(3), Answers: longs(3)}
	v := numbers(2, 1, 3)
	var extend func(p prog.Program)
	extend = func(p prog.Program) {
		b.Program = p
		wantAsReference(t, b, play.State{}, v)
		wantAsReference(t, b, play.State{1}, v)
		if len(p) == 4 || t.Failed() {
			return
		}
		for _, x := range some {
			extend(append(p, x))
		}
	}
	extend(make(prog.Program, 0, 4))
}
