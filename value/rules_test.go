package value_test

import (
	"fmt"
	"math"
	"math/rand"
	"reflect"
	"runtime"
	"slices"
	"testing"

	"prompter/api"
	"prompter/kind"
	"prompter/value"
)

// values returns some values of no type in particular.
func values() []value.Value {
	return []value.Value{
		{}, num(1), num(-1), num(most), num(fewest), float(1), float(negativeZero), float(math.NaN()), str("a"), str("\x00"), list(num(0)), list(num(1), num(2)), list(list()),
		pick(0, num(0)), pick(1, num(1)), pick(-1, num(1)), pick(most, num(1)), pick(fewest, num(0)), list(times(70, num(0))...), {N: 1, F: 1, Text: "a", Of: []value.Value{{}}},
	}
}

// wantQuiet checks that nothing panics, whatever the type and the value are,
// that the results agree, and that they stay the same.
func wantQuiet(t *testing.T, x kind.Type, list []value.Value, numbers []int64) {
	t.Helper()
	built := value.Build(x, numbers)
	if !value.Same(built, value.Build(x, numbers)) {
		t.Errorf("Build(%v, %v) is not always the same", x, numbers)
	}
	for _, v := range append(list, built) {
		e := value.Check(x, v)
		if e != api.OK && e != api.ErrArgs {
			t.Errorf("Check(%v, %v): error %d", x, v, e)
		}
		for _, most := range []int{math.MinInt, 0, 2, math.MaxInt} {
			if l := value.Flat(x, v, most); len(l) > max(0, most) || e != api.OK && len(l) > 0 {
				t.Errorf("Flat(%v, %v, %d): %v", x, v, most, l)
			}
		}
	}
}

// P1: types of every kind, right or not, with any numbers of names and parts.
func TestP1Shapes(t *testing.T) {
	parts := []kind.Type{plain(kind.Bool), plain(kind.Ref), text(-1), plain(200), record(enum(0)), seq(1, ref("T"))}
	for k := range 256 {
		for _, most := range []int{math.MinInt, -1, 0, 1, 60, 61, 1 << 40, math.MaxInt} {
			for n := range 15 {
				for m := range 15 {
					if k > 12 && n+m > 1 || n+m > 4 && n+m < 22 || k > 12 && most > 1 {
						continue
					}
					x := kind.Type{Kind: kind.Kind(k), Most: most, Names: names(n), Of: slices.Repeat(parts, 3)[:m]}
					for _, numbers := range [][]int64{nil, {fewest, -1, 1 << 40}} {
						wantQuiet(t, x, values(), numbers)
					}
				}
			}
		}
	}
}

// P1: any mixture of types and values that are not right.
func TestP1Mixed(t *testing.T) {
	r := rand.New(rand.NewSource(1))
	var mixed func(levels int) kind.Type
	mixed = func(levels int) kind.Type {
		x := kind.Type{Kind: kind.Kind(r.Intn(12)), Most: []int{0, 0, 0, 1, 60, -1, 61, math.MinInt, math.MaxInt}[r.Intn(9)]}
		for range r.Intn(4) {
			x.Names = append(x.Names, []string{"", "a", "b", "seq", "\xff"}[r.Intn(5)])
		}
		for range r.Intn(4) {
			if levels > 0 {
				x.Of = append(x.Of, mixed(levels-1))
			}
		}
		return x
	}
	var any func(levels int) value.Value
	any = func(levels int) value.Value {
		v := value.Value{N: int64(r.Intn(4) - 1)}
		for range r.Intn(4) {
			if levels > 0 {
				v.Of = append(v.Of, any(levels-1))
			}
		}
		if r.Intn(4) == 0 {
			spoil(r, &v)
		}
		return v
	}
	for range 5000 {
		wantQuiet(t, mixed(4), []value.Value{any(3), any(5)}, randomNumbers(r))
	}
}

// P1: types nested deeper than those that have values, and longer lists.
func TestP1Large(t *testing.T) {
	for _, levels := range []int{20, 21, 100, 999, 1000, 1001, 1 << 18} {
		x, v := nested(levels, plain(kind.Card), num(1))
		y, w := plain(kind.Bool), num(1)
		for range levels {
			y, w = choice(enum(1), y), pick(1, w)
		}
		wantQuiet(t, x, []value.Value{v, w}, []int64{1})
		wantQuiet(t, y, []value.Value{v, w}, []int64{1})
		if value.Same(v, w) || !value.Same(v, v) || !value.Same(copyDeep(w), w) {
			t.Error("Same of deep values")
		}
	}
	const n = 1 << 16
	long := []string{}
	for range n {
		long = append(long, "a")
	}
	wide := list(times(n, num(1))...)
	for k := range kind.Kinds {
		wantQuiet(t, kind.Type{Kind: k, Names: long}, []value.Value{wide, num(n - 1)}, []int64{n})
		wantQuiet(t, kind.Type{Kind: k, Of: make([]kind.Type, n)}, []value.Value{wide, pick(n-1, num(1))}, []int64{n})
		wantQuiet(t, kind.Type{Kind: k, Most: n, Names: long, Of: make([]kind.Type, n)}, []value.Value{wide, num(n - 1)}, []int64{n})
		wantQuiet(t, kind.Type{Kind: k, Most: math.MaxInt}, []value.Value{wide, str(string(make([]byte, n)))}, []int64{1 << 40})
	}
}

// copyDeep copies a value that has one part on each level.
func copyDeep(v value.Value) value.Value {
	top := []value.Value{v}
	for at := top; len(at[0].Of) > 0; at = at[0].Of {
		at[0].Of = slices.Clone(at[0].Of)
	}
	return top[0]
}

// endless returns a type that, in memory, contains itself behind other parts.
func endless(k kind.Kind, before kind.Type, parts int) kind.Type {
	x := kind.Type{Kind: k, Of: times(parts, before)}
	if k == kind.Seq {
		x.Most = 60
	} else {
		x.Names = names(parts)
	}
	x.Of[parts-1] = x
	if parts > 2 {
		x.Of[0] = x
	}
	return x
}

// P1, P8.2: endless types, and those that share so much memory that their
// values would have too many parts: Build ends, with little memory.
func TestP1Endless(t *testing.T) {
	var before, after runtime.MemStats
	runtime.ReadMemStats(&before)
	four := plain(kind.Card)
	for range 3 {
		four = record(times(12, four)...)
	}
	for _, k := range []kind.Kind{kind.Seq, kind.Record, kind.Choice, kind.Enum} {
		for _, first := range []kind.Type{plain(kind.Card), text(60), text(61), ref("a"), four} {
			for _, parts := range []int{1, 2, 3, 12, 13} {
				x := endless(k, first, parts)
				wantQuiet(t, x, values(), []int64{3, 2, 1})
				wantQuiet(t, record(plain(kind.Bool), x), values(), []int64{3})
			}
		}
	}
	for _, last := range []kind.Type{plain(kind.Bool), text(0), plain(99)} {
		for _, parts := range []int{2, 12} {
			x := last
			for range 64 {
				x = record(times(parts, x)...)
			}
			wantQuiet(t, x, values(), []int64{7})
		}
	}
	runtime.ReadMemStats(&after)
	if grown := after.Sys - before.Sys; grown > 256<<20 {
		t.Errorf("%d bytes of memory", grown)
	}
}

// P1: values that, in memory, contain themselves are values of no type.
func TestP1EndlessValues(t *testing.T) {
	v := list(num(0), num(0))
	v.Of[0], v.Of[1] = v, v
	x, y, z := plain(kind.Bool), plain(kind.Bool), plain(kind.Bool)
	for range 19 {
		x, y, z = seq(60, x), record(y, y), choice(z, z)
	}
	for _, x := range []kind.Type{x, y, z, endless(kind.Seq, x, 1), endless(kind.Record, x, 2), endless(kind.Choice, x, 2)} {
		wantCheck(t, x, v, false)
		wantFlat(t, x, v)
	}
	if value.Same(v, list(num(0), num(0))) || value.Same(list(), v) {
		t.Error("an endless value is the same as another one")
	}
}

// P2, R1.
func TestR1(t *testing.T) {
	if math.MaxInt != math.MaxInt64 {
		t.Error("int has not 64 bits")
	}
	wantCheck(t, seq(1<<33, plain(kind.Bool)), list(num(1), num(1)), true)
	wantFlat(t, plain(kind.Card), num(7), 7)
	if l := value.Flat(plain(kind.Card), num(7), 1<<32); len(l) != 1 {
		t.Errorf("Flat with 2^32: %v", l)
	}
}

// P2, R3: no numbers of what is no value. (R2 and R4: there is one error, and
// no state; R7: there are no objects.)
func TestR3(t *testing.T) {
	x := record(plain(kind.Card), seq(3, plain(kind.Card)), plain(kind.Bool))
	wantFlat(t, x, list(num(1), list(num(2)), num(1)), 1, 1, 2, 1)
	wantFlat(t, x, list(num(1), list(num(2)), num(2))) // the last thing of all
}

// P2, R5: empty lists, nil or not.
func TestR5(t *testing.T) {
	none := []value.Value{}
	for _, k := range []kind.Kind{kind.Bool, kind.Card, kind.Long, kind.Real} {
		x := kind.Type{Kind: k, Names: []string{}, Of: []kind.Type{}}
		wantCheck(t, x, value.Value{Of: none}, true)
		wantCheck(t, plain(k), value.Value{Of: none}, true)
		wantFlat(t, x, value.Value{Of: none}, 0)
		wantBuild(t, x, []int64{}, value.Value{})
		wantBuild(t, x, nil, value.Value{Of: none})
	}
	wantCheck(t, seq(3, enum(1)), value.Value{Of: none}, true)
	wantFlat(t, seq(3, enum(1)), value.Value{Of: none}, 0)
	wantCheck(t, text(3), value.Value{Of: none}, true)
	wantCheck(t, record(seq(1, text(1)), text(1)), list(value.Value{Of: none}, value.Value{Of: none}), true)
	wantCheck(t, record(enum(1)), value.Value{Of: none}, false)
	if !value.Same(value.Value{Of: none}, value.Value{}) || !value.Same(list(value.Value{}, num(1)), list(value.Value{Of: none}, num(1))) {
		t.Error("Same: an empty list is not nil")
	}
}

// grow gives spare capacity to each list in v, and marks what is there.
func grow(v reflect.Value) {
	switch v.Kind() {
	case reflect.Slice:
		v.Grow(2)
		for i := range v.Len() {
			grow(v.Index(i))
		}
		for i := v.Len(); i < v.Cap(); i++ {
			mark(v.Slice(0, v.Cap()).Index(i))
		}
	case reflect.Struct:
		for i := range v.NumField() {
			grow(v.Field(i))
		}
	}
}

// mark changes the first thing in v: a text, a kind or a number.
func mark(v reflect.Value) {
	for v.Kind() == reflect.Struct {
		v = v.Field(0)
	}
	switch v.Kind() {
	case reflect.String:
		v.SetString("spare")
	case reflect.Int64:
		v.SetInt(99)
	default:
		v.SetUint(99)
	}
}

// roomy returns a copy of x whose lists have spare capacity.
func roomy[T any](x T) T {
	grow(reflect.ValueOf(&x).Elem())
	return x
}

// dump writes down all that can be reached from v, also what is behind the
// lists' ends.
func dump(v reflect.Value) string {
	s := ""
	switch v.Kind() {
	case reflect.Slice:
		for i := range v.Cap() {
			s += "[" + dump(v.Slice(0, v.Cap()).Index(i)) + "]"
		}
	case reflect.Struct:
		for i := range v.NumField() {
			s += dump(v.Field(i)) + ","
		}
	default:
		s = fmt.Sprintf("%#v", v)
	}
	return s
}

// P2, R6: arguments are not changed, also not behind their lists' ends.
func TestR6(t *testing.T) {
	r := rand.New(rand.NewSource(6))
	type arguments struct {
		X    kind.Type
		V, W value.Value
		L    []int64
	}
	for range 300 {
		x := randomType(r, 1+r.Intn(4))
		a := arguments{x, randomValue(r, x, 5), randomValue(r, x, 5), randomNumbers(r)}
		if r.Intn(3) == 0 {
			spoil(r, &a.V)
		}
		a = roomy(a)
		before := dump(reflect.ValueOf(a))
		value.Check(a.X, a.V)
		value.Same(a.V, a.W)
		numbers := value.Flat(a.X, a.W, 9)
		v := value.Build(a.X, a.L)
		if after := dump(reflect.ValueOf(a)); after != before {
			t.Fatalf("changed from %s to %s", before, after)
		}
		again, w := slices.Clone(numbers), copied(v)
		scribble(reflect.ValueOf(&a).Elem())
		if !slices.Equal(numbers, again) || !value.Same(v, w) {
			t.Fatal("results change with the arguments")
		}
	}
}

// scribble overwrites all numbers in the lists that can be reached from v.
func scribble(v reflect.Value) {
	switch v.Kind() {
	case reflect.Slice:
		v = v.Slice(0, v.Cap())
		for i := range v.Cap() {
			scribble(v.Index(i))
		}
	case reflect.Struct:
		for i := range v.NumField() {
			scribble(v.Field(i))
		}
	case reflect.Int64:
		v.SetInt(77)
	case reflect.Uint8:
		v.SetUint(77)
	}
}

// R6: the lists of a result share nothing with each other, and neither do the
// results of two calls.
func TestR6Lists(t *testing.T) {
	row := seq(3, plain(kind.Card))
	x := record(row, row, choice(row, row), seq(3, record(plain(kind.Card), plain(kind.Card))))
	l := []int64{3, 1, 2, 3}
	v, other := value.Build(x, l), value.Build(x, l)
	lists := map[*value.Value]bool{}
	var visit func(v value.Value)
	visit = func(v value.Value) {
		all := v.Of[:cap(v.Of)]
		for i := range all {
			if lists[&all[i]] {
				t.Errorf("two lists share a place")
			}
			lists[&all[i]] = true
		}
		for _, part := range v.Of {
			visit(part)
		}
	}
	visit(v)
	visit(other)
	a, b := value.Flat(x, v, 99), value.Flat(x, v, 99)
	a[0] = 77
	if b[0] == 77 || &a[0] == &b[0] {
		t.Error("two results of Flat are one list")
	}
}

// P2, R8: nothing but the arguments matters: not what was called before, nor
// how lists are kept, nor who else calls.
func TestR8(t *testing.T) {
	r := rand.New(rand.NewSource(8))
	type question struct {
		x kind.Type
		v value.Value
		l []int64
	}
	answer := func(q question) string {
		return fmt.Sprint(value.Check(q.x, q.v) == api.OK, value.Flat(q.x, q.v, 20), written(value.Build(q.x, q.l)), value.Same(q.v, value.Build(q.x, q.l)))
	}
	var questions []question
	var answers []string
	for range 200 {
		x := randomType(r, 1+r.Intn(4))
		q := question{x, randomValue(r, x, 5), randomNumbers(r)}
		if r.Intn(3) == 0 {
			spoil(r, &q.v)
		}
		questions = append(questions, q)
		answers = append(answers, answer(q))
	}
	done := make(chan bool)
	for range 4 {
		order := r.Perm(len(questions))
		go func() {
			defer func() { done <- true }()
			for _, i := range order {
				if s := answer(questions[i]); s != answers[i] {
					t.Errorf("%s, and then %s", answers[i], s)
				}
			}
		}()
	}
	for range 4 {
		<-done
	}
	for i, q := range questions {
		q.x, q.v, q.l = roomy(q.x), roomy(q.v), roomy(q.l)
		if s := answer(q); s != answers[i] {
			t.Errorf("%s, and with other lists %s", answers[i], s)
		}
	}
}
