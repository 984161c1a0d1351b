package value_test

import (
	"fmt"
	"math"
	"math/big"
	"math/rand"
	"slices"
	"testing"

	"prompter/api"
	"prompter/kind"
	"prompter/real"
	"prompter/value"
)

// randomType returns a type that is right, but perhaps for its depth.
func randomType(r *rand.Rand, levels int) kind.Type {
	many := []int{1, 1, 2, 2, 3, 5, 12}[r.Intn(7)]
	parts := func() (of []kind.Type) {
		for range many {
			of = append(of, randomType(r, levels-1))
		}
		return of
	}
	k := []kind.Kind{kind.Bool, kind.Card, kind.Long, kind.Real, kind.Text, kind.Enum}[r.Intn(6)]
	if levels > 1 && r.Intn(4) > 0 {
		k = []kind.Kind{kind.Seq, kind.Record, kind.Choice}[r.Intn(3)]
	}
	switch k {
	case kind.Text:
		return text([]int{1, 2, 3, 25, 26, 27, 60}[r.Intn(7)])
	case kind.Seq:
		return seq([]int{1, 2, 3, 4, 60}[r.Intn(5)], randomType(r, levels-1))
	case kind.Record:
		return record(parts()...)
	case kind.Enum:
		return enum(many)
	case kind.Choice:
		return choice(parts()...)
	}
	return plain(k)
}

// randomNumber returns a small number, or one at the border of a range.
func randomNumber(r *rand.Rand) int64 {
	switch r.Intn(4) {
	case 0:
		return int64(r.Intn(9) - 2)
	case 1:
		return int64(r.Uint64())
	case 2:
		return []int64{fewest, most, 1 << 16, 1 << 31, 1 << 32, -1 << 31, -1 << 32, 1 << 53}[r.Intn(8)] + int64(r.Intn(3)-1)
	}
	return int64(r.Intn(70))
}

func randomNumbers(r *rand.Rand) (list []int64) {
	for range []int{0, 1, 2, 3, 7, 8, 50}[r.Intn(7)] {
		list = append(list, randomNumber(r))
	}
	return list
}

// randomFloat returns one of those that differ in how they are the same.
func randomFloat(r *rand.Rand) float64 {
	return []float64{0, negativeZero, 0.5, -0.5, 2.5, -7, 1e300, -1e300, 1 << 31, math.Inf(1), math.Inf(-1), math.NaN(), math.Float64frombits(0xfff0000000000007)}[r.Intn(13)]
}

// randomValue returns a value of x, with at most so many elements.
func randomValue(r *rand.Rand, x kind.Type, elements int) value.Value {
	switch x.Kind {
	case kind.Bool:
		return num(int64(r.Intn(2)))
	case kind.Card:
		return num(int64(r.Intn(65536)))
	case kind.Long:
		return num(int64(int32(r.Uint32())))
	case kind.Real:
		return float(randomFloat(r))
	case kind.Text:
		b := make([]byte, r.Intn(x.Most+1))
		r.Read(b)
		return str(string(b))
	case kind.Enum:
		return num(int64(r.Intn(len(x.Names))))
	case kind.Seq:
		var v value.Value
		for range r.Intn(min(x.Most, elements) + 1) {
			v.Of = append(v.Of, randomValue(r, x.Of[0], elements/2))
		}
		return v
	case kind.Record:
		var v value.Value
		for _, part := range x.Of {
			v.Of = append(v.Of, randomValue(r, part, elements))
		}
		return v
	}
	n := r.Intn(len(x.Of))
	return pick(int64(n), randomValue(r, x.Of[n], elements))
}

// isValue decides in another way whether v is a value of a right type: from a
// list of all that has to hold.
func isValue(x kind.Type, v value.Value) bool {
	zeroN, zeroF, zeroText, zeroOf := v.N == 0, math.Float64bits(v.F) == 0, v.Text == "", len(v.Of) == 0
	rest := map[kind.Kind][]bool{
		kind.Bool: {zeroF, zeroText, zeroOf}, kind.Card: {zeroF, zeroText, zeroOf}, kind.Long: {zeroF, zeroText, zeroOf}, kind.Enum: {zeroF, zeroText, zeroOf},
		kind.Real: {zeroN, zeroText, zeroOf}, kind.Text: {zeroN, zeroF, zeroOf},
		kind.Seq: {zeroN, zeroF, zeroText}, kind.Record: {zeroN, zeroF, zeroText}, kind.Choice: {zeroF, zeroText, !zeroOf},
	}
	if slices.Contains(rest[x.Kind], false) {
		return false
	}
	end := map[kind.Kind]uint64{kind.Bool: 2, kind.Card: 1 << 16, kind.Enum: uint64(len(x.Names)), kind.Choice: uint64(len(x.Of))}[x.Kind]
	if end > 0 && uint64(v.N) >= end || x.Kind == kind.Long && int64(int32(v.N)) != v.N {
		return false
	}
	length := map[kind.Kind]int{kind.Text: len(v.Text), kind.Seq: len(v.Of)}[x.Kind]
	if length > x.Most {
		return false
	}
	types := x.Of
	switch x.Kind {
	case kind.Seq:
		types = slices.Repeat(types, len(v.Of))
	case kind.Choice:
		types = types[v.N : v.N+1]
	}
	if len(types) != len(v.Of) {
		return false
	}
	for i := range types {
		if !isValue(types[i], v.Of[i]) {
			return false
		}
	}
	return true
}

// spoil changes one thing somewhere in v.
func spoil(r *rand.Rand, v *value.Value) {
	for len(v.Of) > 0 && r.Intn(4) > 0 {
		v = &v.Of[r.Intn(len(v.Of))]
	}
	switch r.Intn(6) {
	case 0:
		v.N = randomNumber(r)
	case 1:
		v.N += int64(r.Intn(3) - 1)
	case 2:
		v.F = randomFloat(r)
	case 3:
		v.Text += "xyz"[:r.Intn(4)]
	case 4:
		v.Of = append(v.Of, value.Value{})
	case 5:
		v.Of = v.Of[:max(0, len(v.Of)-1)]
	}
}

func TestP8_1RandomCheck(t *testing.T) {
	r := rand.New(rand.NewSource(81))
	wrong := 0
	for range 30000 {
		x := randomType(r, 1+r.Intn(5))
		v := randomValue(r, x, 6)
		wantCheck(t, x, v, true)
		for range r.Intn(3) {
			spoil(r, &v)
		}
		right := isValue(x, v)
		wantCheck(t, x, v, right)
		y := randomType(r, 1+r.Intn(2))
		wantCheck(t, y, v, isValue(y, v))
		if !right {
			wrong++
		}
	}
	if wrong < 5000 {
		t.Errorf("only %d were no values", wrong)
	}
}

// written writes a value down, floats by their bits.
func written(v value.Value) string {
	s := fmt.Sprintf("%d %q %x [", v.N, v.Text, real.Bits(v.F))
	for _, part := range v.Of {
		s += written(part) + ","
	}
	return s + "]"
}

// copied returns v in new memory.
func copied(v value.Value) value.Value {
	v.Of = slices.Clone(v.Of)
	for i := range v.Of {
		v.Of[i] = copied(v.Of[i])
	}
	return v
}

func TestP8_1RandomSame(t *testing.T) {
	r := rand.New(rand.NewSource(82))
	many := map[bool]int{}
	for range 20000 {
		x := randomType(r, 1+r.Intn(4))
		a := randomValue(r, x, 6)
		b := copied(a)
		if r.Intn(2) == 0 {
			spoil(r, &b)
		}
		same := written(a) == written(b)
		if value.Same(a, b) != same || value.Same(b, a) != same {
			t.Errorf("Same(%v, %v) is not %v", a, b, same)
		}
		many[same]++
		c := randomValue(r, x, 6)
		if value.Same(a, c) != (written(a) == written(c)) {
			t.Errorf("Same(%v, %v) is wrong", a, c)
		}
	}
	if many[true] < 5000 || many[false] < 5000 {
		t.Errorf("same and not: %v", many)
	}
}

// flattened returns all numbers of a value in another way: those of lists are
// the ones of what is in them, behind the number of the list itself.
func flattened(x kind.Type, v value.Value) []int64 {
	own := map[kind.Kind]int64{kind.Real: real.Whole(v.F), kind.Text: int64(len(v.Text)), kind.Seq: int64(len(v.Of))}
	n, ok := own[x.Kind]
	if !ok {
		n = v.N
	}
	var all []int64
	if x.Kind != kind.Record {
		all = append(all, n)
	}
	for i, part := range v.Of {
		of := x.Of[min(i, len(x.Of)-1)]
		if x.Kind == kind.Choice {
			of = x.Of[v.N]
		}
		all = append(all, flattened(of, part)...)
	}
	return all
}

func TestP8_2RandomFlat(t *testing.T) {
	r := rand.New(rand.NewSource(83))
	for range 10000 {
		x := randomType(r, 1+r.Intn(5))
		v := randomValue(r, x, 6)
		wantFlat(t, x, v, flattened(x, v)...)
		spoil(r, &v)
		if !isValue(x, v) {
			wantFlat(t, x, v)
		}
	}
}

// built builds a value in another way: with great integers, and with its
// numbers and the values that are begun kept by closures.
func built(x kind.Type, numbers []int64) value.Value {
	next := func() *big.Int {
		if len(numbers) == 0 {
			return new(big.Int)
		}
		n := numbers[0]
		numbers = append(slices.Clone(numbers[1:]), n)
		return big.NewInt(n)
	}
	modulo := func(m int64) int64 { return new(big.Int).Mod(next(), big.NewInt(m)).Int64() }
	begun := 0
	var build func(x kind.Type) value.Value
	each := func(list []kind.Type) (of []value.Value) {
		for _, part := range list {
			of = append(of, build(part))
		}
		return of
	}
	build = func(x kind.Type) (v value.Value) {
		begun++
		switch x.Kind {
		case kind.Bool:
			v.N = modulo(2)
		case kind.Card:
			v.N = modulo(65536)
		case kind.Long:
			if v.N = modulo(1 << 32); v.N >= 1<<31 {
				v.N -= 1 << 32
			}
		case kind.Real:
			v.F, _ = new(big.Float).SetInt(next()).Float64()
		case kind.Enum:
			v.N = modulo(int64(len(x.Names)))
		case kind.Text:
			for i := range modulo(int64(x.Most) + 1) {
				v.Text += string(rune('a' + i%26))
			}
		case kind.Seq:
			if begun <= 100 {
				v.Of = each(slices.Repeat(x.Of, int(min(modulo(4), int64(x.Most)))))
			}
		case kind.Record:
			v.Of = each(x.Of)
		case kind.Choice:
			v.N = modulo(int64(len(x.Of)))
			v.Of = each(x.Of[v.N : v.N+1])
		}
		return v
	}
	return build(x)
}

// Types of up to five levels, of which some have values of more than a hundred
// others, and deeper ones.
func TestP8_2RandomBuild(t *testing.T) {
	r := rand.New(rand.NewSource(84))
	large := 0
	for range 10000 {
		x := randomType(r, 1+r.Intn(5))
		for range r.Intn(4) {
			x = seq(60, record(x, x, x))
		}
		l := randomNumbers(r)
		want := built(x, l)
		wantBuild(t, x, l, want)
		all := flattened(x, want)
		wantFlat(t, x, want, all...)
		if len(all) > 100 {
			large++
		}
	}
	if large < 100 {
		t.Errorf("only %d are large", large)
	}
}

// P8.2 and P8.1 for the types that procedures of interfaces may have: Whole
// makes them, up to 20 levels.
func TestP8_2RandomWhole(t *testing.T) {
	r := rand.New(rand.NewSource(85))
	for range 300 {
		var table kind.Table
		x := randomType(r, 2)
		for i := range 6 {
			name := string(rune('a' + i))
			table.Types = append(table.Types, kind.Alias{Name: name, Type: x})
			x = []kind.Type{ref(name), seq(3, ref(name)), record(ref(name), plain(kind.Bool)), choice(text(5), ref(name)), seq(2, choice(ref(name)))}[r.Intn(5)]
		}
		whole, e := table.Whole(x)
		if e == api.ErrSize {
			continue
		}
		l := randomNumbers(r)
		wantBuild(t, whole, l, built(whole, l))
		if x.Kind == kind.Ref {
			wantCheck(t, x, value.Build(whole, l), false)
		}
	}
}
