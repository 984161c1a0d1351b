package play_test

import (
	"fmt"
	"math"
	"math/rand"
	"reflect"
	"slices"
	"testing"

	"prompter/api"
	"prompter/kind"
	"prompter/play"
	"prompter/prog"
	"prompter/value"
)

// wantQuiet checks that Play does not panic, returns one of its errors, and
// nothing else with it.
func wantQuiet(t *testing.T, b play.Body, s play.State, v value.Value) {
	t.Helper()
	out, o := play.Play(b, s, v)
	switch {
	case o.Err == api.OK && o.Raised == 0 && value.Check(b.Answers, o.Value) == api.OK:
	case o.Err == api.ErrRaised && o.Raised >= 0 && out == s && value.Same(o.Value, value.Value{}):
	case o.Err != api.ErrFault && o.Err != api.ErrArgs, o.Raised != 0, out != s, !value.Same(o.Value, value.Value{}):
		t.Errorf("%.300v with %.200v on %v: %v, %.300v", b, v, s, out, told(o))
	}
}

// P1: programs of arbitrary bytes.
func TestP1Programs(t *testing.T) {
	r := rand.New(rand.NewSource(1))
	for range 100000 {
		p := make(prog.Program, r.Intn(30))
		for i := range p {
			p[i] = prog.Instr{Op: prog.Op(r.Intn(256)), Dst: uint8(r.Intn(256)), A: uint8(r.Intn(256)), B: uint8(r.Intn(256)), N: int16(r.Uint32())}
			if r.Intn(4) > 0 {
				p[i] = prog.Instr{Op: prog.Op(r.Intn(12)), Dst: uint8(r.Intn(16)), A: uint8(r.Intn(16)), B: uint8(r.Intn(16)), N: int16(r.Intn(12))}
			}
		}
		wantQuiet(t, body(p...), randomState(r), numbers(eight...))
	}
	wantQuiet(t, body(make(prog.Program, 1<<20)...), state, numbers(eight...))
	// The most that a program executes.
	longest := append(prog.Program{loop(23, 8)}, slices.Repeat(one(prog.Instr{Op: prog.Add, B: 8}), 23)...)
	wantPlay(t, "the longest", body(longest...), play.State{}, numbers(eight...), play.State{8 * 23 * 8}, numbers(eight...))
}

// strange returns types that are not right, or are right but for their depth.
func strange() []kind.Type {
	deep, _ := nested(1<<16, plain(kind.Card), num(1))
	long := kind.Type{Kind: kind.Record, Names: names(1 << 12), Of: make([]kind.Type, 1<<12)}
	endless := kind.Type{Kind: kind.Record, Names: names(2), Of: make([]kind.Type, 2)}
	endless.Of[0], endless.Of[1] = endless, endless
	endlessSeq := kind.Type{Kind: kind.Seq, Most: 3, Of: make([]kind.Type, 1)}
	endlessSeq.Of[0] = endlessSeq
	list := append(withoutValues(), deep, long, endless, endlessSeq, text(0), text(-1), text(1<<40), seq(0, plain(kind.Bool)), seq(-1, plain(kind.Bool)),
		seq(1<<40, plain(kind.Bool)), record(), enum(40), choice(times(40, plain(kind.Bool))...), plain(kind.Seq), record(record(), text(0)))
	for k := range kind.Kinds + 2 {
		for _, most := range []int{math.MinInt, 1, math.MaxInt} {
			list = append(list, kind.Type{Kind: k, Most: most}, kind.Type{Kind: k, Most: most, Names: names(2)}, kind.Type{Kind: k, Most: most, Of: times(3, plain(kind.Long))})
		}
	}
	return list
}

// P1: whatever the types and the arguments are.
func TestP1Types(t *testing.T) {
	endless := list(num(0), num(0))
	endless.Of[0], endless.Of[1] = endless, endless
	_, deep := nested(1<<16, plain(kind.Card), num(1))
	values := []value.Value{
		{}, num(1), num(-1), num(most), num(fewest), float(math.NaN()), float(negativeZero), str("abc"), list(), list(num(0)), list(num(1), num(1), num(1)), list(list()),
		pick(1, num(1)), pick(most, num(0)), pick(fewest, num(0)), list(times(70, num(0))...), {N: 1, F: 1, Text: "a", Of: []value.Value{{}}}, endless, deep,
	}
	for _, x := range strange() {
		for _, v := range values {
			wantQuiet(t, play.Body{Takes: x, Answers: longs(8), Program: changing}, state, v)
			wantQuiet(t, play.Body{Takes: x, Answers: x, Program: changing}, state, v)
		}
		wantQuiet(t, play.Body{Takes: longs(8), Answers: x, Program: changing}, state, numbers(eight...))
		wantQuiet(t, play.Body{Takes: longs(8), Answers: x}, play.State{}, numbers(eight...))
	}
	for _, v := range values {
		wantError(t, "arguments", body(changing...), state, v, api.ErrArgs, 0)
	}
	for _, v := range []value.Value{deep, list(num(0))} {
		if play.Same(play.Outcome{Value: v}, play.Outcome{}) || !play.Same(play.Outcome{Value: v}, play.Outcome{Value: v}) {
			t.Error("Same of a deep value")
		}
	}
}

// R1: numbers have 64 bits, and an int has.
func TestR1(t *testing.T) {
	if math.MaxInt != math.MaxInt64 {
		t.Error("int has not 64 bits")
	}
	if play.Same(play.Outcome{Raised: 1}, play.Outcome{Raised: 1<<32 + 1}) {
		t.Error("Same of a Raised of 33 bits")
	}
}

// R3: no answer with an error, also if one could be made, and nothing raised
// without ErrRaised.
func TestR3(t *testing.T) {
	for _, b := range []play.Body{
		body(set(8, 5), prog.Instr{Op: prog.Raise, A: 8, N: 9}), body(set(8, 5), prog.Instr{Op: prog.Div, A: 8, B: 7}), body(set(8, 5), prog.Instr{Op: prog.Ops}),
		{Takes: longs(8), Answers: record(plain(kind.Bool), plain(kind.Kinds))}, {Takes: longs(7), Answers: longs(8)},
	} {
		out, o := play.Play(b, play.State{1, 2, 3}, numbers(eight...))
		raised := 0
		if o.Err == api.ErrRaised {
			raised = 9
		}
		if o.Err == api.OK || o.Raised != raised || !reflect.DeepEqual(o.Value, value.Value{}) || out != (play.State{1, 2, 3}) {
			t.Errorf("%v: %v, %v", b, out, told(o))
		}
	}
}

// R5: empty lists may be nil or empty.
func TestR5(t *testing.T) {
	none := value.Value{Of: []value.Value{}}
	bool := kind.Type{Kind: kind.Bool, Names: []string{}, Of: []kind.Type{}}
	for _, p := range []prog.Program{nil, {}} {
		wantPlay(t, "no instructions", play.Body{Takes: bool, Answers: bool, Program: p}, state, none, state, num(0))
		wantPlay(t, "no elements", play.Body{Takes: seq(3, bool), Answers: seq(3, bool), Program: p}, state, none, state, none)
		wantPlay(t, "no elements", play.Body{Takes: seq(3, bool), Answers: seq(3, bool), Program: p}, state, value.Value{}, state, value.Value{})
		wantPlay(t, "no fields", play.Body{Takes: record(), Answers: bool, Program: p}, state, none, state, num(0))
	}
}

// arguments are all that Play is given.
type arguments struct {
	B play.Body
	S play.State
	V value.Value
}

// visit calls see with each number and text in the lists of v, also with what
// is behind their ends.
func visit(v reflect.Value, see func(v reflect.Value)) {
	switch v.Kind() {
	case reflect.Slice:
		v = v.Slice(0, v.Cap())
		for i := range v.Len() {
			visit(v.Index(i), see)
		}
	case reflect.Struct:
		for i := range v.NumField() {
			visit(v.Field(i), see)
		}
	case reflect.Array:
	default:
		see(v)
	}
}

// dump writes down all that visit sees.
func dump(x any) (s string) {
	visit(reflect.ValueOf(x), func(v reflect.Value) { s += fmt.Sprintf("%#v,", v) })
	return s
}

// scribble overwrites each number that visit sees in what x points to.
func scribble(x any) {
	visit(reflect.ValueOf(x).Elem(), func(v reflect.Value) {
		switch {
		case v.CanInt():
			v.SetInt(77)
		case v.CanUint():
			v.SetUint(3)
		}
	})
}

// roomy gives spare capacity, with something in it, to each list in v.
func roomy(v reflect.Value) {
	switch v.Kind() {
	case reflect.Slice:
		for i := range v.Len() {
			roomy(v.Index(i))
		}
		n := v.Len()
		v.Grow(3)
		spare := v.Slice(0, v.Cap())
		for i := n; i < spare.Len(); i++ {
			if f := spare.Index(i); f.Kind() == reflect.Struct && f.NumField() > 0 {
				visit(f, func(v reflect.Value) {
					if v.CanInt() {
						v.SetInt(99)
					}
				})
			}
		}
	case reflect.Struct:
		for i := range v.NumField() {
			roomy(v.Field(i))
		}
	}
}

// randomArguments returns arguments whose lists have spare capacity.
func randomArguments(r *rand.Rand) arguments {
	var a arguments
	a.B, a.S, a.V = randomBody(r)
	roomy(reflect.ValueOf(&a).Elem())
	return a
}

// R6: arguments are neither changed nor kept: the outcome stays as it is when
// they change.
func TestR6(t *testing.T) {
	r := rand.New(rand.NewSource(6))
	for range 3000 {
		a := randomArguments(r)
		before := dump(a)
		_, o := play.Play(a.B, a.S, a.V)
		if after := dump(a); after != before {
			t.Fatalf("changed from %s to %s", before, after)
		}
		told := dump(o)
		scribble(&a)
		if dump(o) != told {
			t.Fatalf("the outcome was %s, and is %s", told, dump(o))
		}
	}
}

// R6: the outcomes of two calls share no memory.
func TestR6Outcomes(t *testing.T) {
	r := rand.New(rand.NewSource(66))
	for range 3000 {
		a := randomArguments(r)
		_, o := play.Play(a.B, a.S, a.V)
		_, other := play.Play(a.B, a.S, a.V)
		told := dump(other)
		if told != dump(o) {
			t.Fatalf("%s and then %s", dump(o), told)
		}
		scribble(&o)
		if dump(other) != told {
			t.Fatalf("two outcomes share memory")
		}
	}
}

// R8: nothing but the arguments matters: not what was played before, nor what
// is behind the ends of lists, nor who else plays.
func TestR8(t *testing.T) {
	r := rand.New(rand.NewSource(8))
	var list []arguments
	var outs []play.State
	var outcomes []play.Outcome
	for range 2000 {
		b, s, v := randomBody(r)
		out, o := wantAsReference(t, b, s, v)
		list, outs, outcomes = append(list, arguments{b, s, v}), append(outs, out), append(outcomes, o)
	}
	done := make(chan bool)
	for range 4 {
		order := r.Perm(len(list))
		go func() {
			defer func() { done <- true }()
			for _, i := range order {
				want(t, "together", list[i].B, list[i].S, list[i].V, outs[i], outcomes[i])
			}
		}()
	}
	for range 4 {
		<-done
	}
	for i, a := range list {
		roomy(reflect.ValueOf(&a).Elem())
		want(t, "with other lists", a.B, a.S, a.V, outs[i], outcomes[i])
	}
}
