package courier_test

import (
	"bytes"
	"math"
	"math/rand"
	"slices"
	"testing"

	"prompter/api"
	"prompter/courier"
	"prompter/kind"
	"prompter/value"
)

// wantQuiet checks that nothing panics, whatever the type is, that only values
// are encoded, and that what is decoded is what is encoded.
func wantQuiet(t *testing.T, x kind.Type, values []value.Value, lists [][]byte) {
	t.Helper()
	for _, v := range values {
		b, e := courier.Put(x, v)
		if right := value.Check(x, v) == api.OK; right != (e != api.ErrArgs) || !right && len(b) > 0 {
			t.Errorf("Put(%v, %v): %s, error %d", x, v, short(b), e)
		}
		if e == api.OK {
			wantTaken(t, x, b, v)
		}
	}
	for _, b := range lists {
		v, e := courier.Take(x, b)
		if e != api.OK {
			wantRejected(t, x, b)
			continue
		}
		wantPut(t, x, v, b)
	}
}

// someValues returns values of no type in particular.
func someValues() []value.Value {
	return []value.Value{
		{}, num(1), num(-1), num(math.MaxInt64), num(math.MinInt64), float(1), float(negativeZero), float(math.NaN()), str("a"), str("\x00"), list(num(0)), list(num(1), num(2)), list(list()),
		pick(0, num(0)), pick(1, num(1)), pick(-1, num(1)), pick(math.MaxInt64, num(1)), pick(math.MinInt64, num(0)), list(times(70, num(0))...), {N: 1, F: 1, Text: "a", Of: []value.Value{{}}},
	}
}

// someBytes returns encodings of no type in particular.
func someBytes() [][]byte {
	return [][]byte{
		nil, {0}, {0, 0}, {0, 1}, {0, 1, 0}, {0, 1, 0, 0}, {0, 1, 0, 1}, {0, 2, 0, 0, 0, 0}, {255, 255}, {255, 255, 255, 255}, {0, 0, 0, 0, 0, 0, 0, 0}, {127, 248, 0, 0, 0, 0, 0, 1},
		make([]byte, 100), bytes.Repeat([]byte{0, 1}, 50), bytes.Repeat([]byte{255}, 4000), make([]byte, 4000), make([]byte, 4001),
	}
}

// P1: types of every kind, right or not, with any numbers of names and parts.
func TestP1Shapes(t *testing.T) {
	parts := []kind.Type{plain(kind.Bool), plain(kind.Ref), text(-1), plain(200), record(), enum(0), seq(1, ref("T"))}
	for k := range 256 {
		for _, most := range []int{math.MinInt, -1, 0, 1, 60, 61, 1 << 40, math.MaxInt} {
			for n := range 14 {
				for m := range 14 {
					if k > 12 && (n+m > 1 || most > 1) || n+m > 4 && n+m < 24 {
						continue
					}
					wantQuiet(t, kind.Type{Kind: kind.Kind(k), Most: most, Names: names(n), Of: slices.Repeat(parts, 2)[:m]}, someValues(), someBytes())
				}
			}
		}
	}
}

// P1: any mixture of types, values and bytes.
func TestP1Mixed(t *testing.T) {
	r := rand.New(rand.NewSource(1))
	var mixed func(levels int) kind.Type
	mixed = func(levels int) kind.Type {
		x := kind.Type{Kind: kind.Kind(r.Intn(12)), Most: []int{0, 0, 1, 3, 60, -1, 61, math.MinInt, math.MaxInt}[r.Intn(9)], Names: names(r.Intn(4))}
		for range r.Intn(4) {
			if levels > 0 {
				x.Of = append(x.Of, mixed(levels-1))
			}
		}
		return x
	}
	var any func(levels int) value.Value
	any = func(levels int) value.Value {
		v := value.Value{N: int64(r.Intn(4) - 1), Text: "ab"[:max(0, r.Intn(8)-5)]}
		for range r.Intn(4) {
			if levels > 0 {
				v.Of = append(v.Of, any(levels-1))
			}
		}
		return v
	}
	for range 5000 {
		words := make([]byte, r.Intn(30))
		for i := range words {
			words[i] = byte(i % 2 * r.Intn(3))
		}
		wantQuiet(t, mixed(4), []value.Value{any(0), any(2), any(4)}, [][]byte{words, words[:len(words)/2], words[:0]})
	}
}

// P1: types nested deeper than those that have values, and types and values
// that, in memory, contain themselves.
func TestP1Endless(t *testing.T) {
	for _, k := range []kind.Kind{kind.Seq, kind.Record, kind.Choice, kind.Enum} {
		for _, parts := range []int{1, 2, 12} {
			x := kind.Type{Kind: k, Most: 60, Names: names(parts), Of: make([]kind.Type, parts)}
			for i := range x.Of {
				x.Of[i] = x
			}
			wantQuiet(t, x, someValues(), someBytes())
			wantQuiet(t, record(plain(kind.Bool), x), someValues(), someBytes())
			x.Of[0] = plain(kind.Bool)
			wantQuiet(t, x, someValues(), someBytes())
		}
	}
	deep := plain(kind.Card)
	for range 1 << 18 {
		deep = seq(1, deep)
	}
	wantQuiet(t, deep, someValues(), someBytes())
	v := list(num(0), num(0))
	v.Of[0], v.Of[1] = v, v
	x, y, z := plain(kind.Bool), plain(kind.Bool), plain(kind.Bool)
	for range 19 {
		x, y, z = seq(60, x), record(y, y), choice(z, z)
	}
	for _, x := range []kind.Type{x, y, z} {
		wantNoPut(t, x, v, api.ErrArgs)
	}
}

// R3: what fails at its very end leaves nothing.
func TestR3(t *testing.T) {
	x := record(plain(kind.Card), seq(3, text(3)), plain(kind.Bool))
	wantBoth(t, x, list(num(1), list(str("a")), num(1)), "00 01 00 01 00 01 61 00 00 01")
	wantRejected(t, x, unhex(t, "00 01 00 01 00 01 61 00 00 02"))
	wantNoPut(t, x, list(num(1), list(str("a")), num(2)), api.ErrArgs)
}

// R5: empty lists, nil or not.
func TestR5(t *testing.T) {
	none := []value.Value{}
	for _, k := range []kind.Kind{kind.Bool, kind.Card} {
		wantPut(t, kind.Type{Kind: k, Names: []string{}, Of: []kind.Type{}}, value.Value{Of: none}, []byte{0, 0})
		wantTaken(t, kind.Type{Kind: k, Names: []string{}, Of: []kind.Type{}}, []byte{0, 0}, value.Value{})
	}
	wantPut(t, seq(3, enum(1)), value.Value{Of: none}, []byte{0, 0})
	for _, b := range [][]byte{nil, {}} {
		wantRejected(t, plain(kind.Bool), b)
		wantTaken(t, record(), b, value.Value{})
	}
}

// R6: arguments are not changed, also not behind their lists' ends, and
// results share nothing with them or with each other.
func TestR6(t *testing.T) {
	x := record(seq(3, plain(kind.Card)), text(9), choice(seq(3, text(9))))
	cards := []value.Value{num(1), num(2), num(99)}
	v := list(value.Value{Of: cards[:2]}, str("abc"), pick(0, list(str("de"))))
	roomy := append(unhex(t, "00 02 00 01 00 02 00 03 61 62 63 00 00 00 00 01 00 02 64 65"), 77, 77, 77)
	b := roomy[: len(roomy)-3 : len(roomy)]
	before := slices.Clone(roomy)
	first, _ := courier.Put(x, v)
	second, _ := courier.Put(x, v)
	taken, _ := courier.Take(x, b)
	again, _ := courier.Take(x, b)
	if !slices.Equal(roomy, before) || cards[0].N != 1 || cards[1].N != 2 || cards[2].N != 99 || v.Of[1].Text != "abc" {
		t.Fatalf("changed to %v and %v", roomy, cards)
	}
	cards[0] = num(7)
	for i := range roomy {
		roomy[i] = 88
	}
	first = first[:cap(first)]
	for i := range first {
		first[i] = 66
	}
	overwrite(taken)
	if !slices.Equal(second, before[:len(b)]) {
		t.Errorf("Put's result changes: %s", short(second))
	}
	if !value.Same(again, list(list(num(1), num(2)), str("abc"), pick(0, list(str("de"))))) {
		t.Errorf("Take's result changes: %v", again)
	}
}

// overwrite changes all values in v, also those behind its lists' ends.
func overwrite(v value.Value) {
	for _, part := range v.Of {
		overwrite(part)
	}
	of := v.Of[:cap(v.Of)]
	for i := range of {
		of[i] = num(55)
	}
}

// R6: the lists of one result share nothing.
func TestR6Lists(t *testing.T) {
	row := seq(3, plain(kind.Card))
	x := record(row, row, choice(row, row), seq(3, record(plain(kind.Card), plain(kind.Card))))
	v, e := courier.Take(x, unhex(t, "00 02 00 01 00 02 00 03 00 04 00 05 00 06 00 01 00 01 00 07 00 02 00 08 00 09 00 0a 00 0b"))
	if e != api.OK {
		t.Fatalf("error %d", e)
	}
	places := map[*value.Value]bool{}
	var visit func(v value.Value)
	visit = func(v value.Value) {
		all := v.Of[:cap(v.Of)]
		for i := range all {
			if places[&all[i]] {
				t.Error("two lists share a place")
			}
			places[&all[i]] = true
		}
		for _, part := range v.Of {
			visit(part)
		}
	}
	visit(v)
}

// R8: nothing but the arguments matters: not what was called before, nor who
// else calls. (R4, R7: there is no state, and there are no objects.)
func TestR8(t *testing.T) {
	type question struct {
		x kind.Type
		v value.Value
		b []byte
	}
	r := rand.New(rand.NewSource(8))
	var questions []question
	for len(questions) < 200 {
		x := randomType(r, 1+r.Intn(4))
		v := randomValue(r, x, 5)
		if b := encoded(x, v); len(b) <= 4000 {
			questions = append(questions, question{x, v, b})
		}
	}
	done := make(chan bool)
	for range 4 {
		order := r.Perm(len(questions))
		go func() {
			defer func() { done <- true }()
			for _, i := range order {
				q := questions[i]
				wantPut(t, q.x, q.v, q.b)
				wantTaken(t, q.x, q.b, q.v)
				wantRejected(t, q.x, append(slices.Clone(q.b), 0))
			}
		}()
	}
	for range 4 {
		<-done
	}
}
