package value

import (
	"prompter/api"
	"prompter/kind"
	"prompter/real"
)

// Flat returns the first numbers of v, at most most; none if v is not a value
// of t.
func Flat(t kind.Type, v Value, most int) []int64 {
	if Check(t, v) != api.OK {
		return nil
	}
	f := flattener{most: most}
	f.flatten(t, v)
	return f.numbers
}

// flattener collects the numbers of a value, until it has as many as asked for.
type flattener struct {
	numbers []int64
	most    int
}

func (f *flattener) full() bool {
	return len(f.numbers) >= f.most
}

func (f *flattener) add(n int64) {
	if !f.full() {
		f.numbers = append(f.numbers, n)
	}
}

func (f *flattener) flatten(t kind.Type, v Value) {
	switch t.Kind {
	case kind.Bool, kind.Card, kind.Long, kind.Enum:
		f.add(v.N)
	case kind.Real:
		f.add(real.Whole(v.F))
	case kind.Text:
		f.add(int64(len(v.Text)))
	case kind.Seq:
		f.add(int64(len(v.Of)))
		for i := 0; i < len(v.Of) && !f.full(); i++ {
			f.flatten(t.Of[0], v.Of[i])
		}
	case kind.Record:
		for i := 0; i < len(v.Of) && !f.full(); i++ {
			f.flatten(t.Of[i], v.Of[i])
		}
	case kind.Choice:
		f.add(v.N)
		f.flatten(t.Of[v.N], v.Of[0])
	}
}

// Build returns a value of t that is made from the numbers of l; the zero one
// if t is not right, or larger than a survey goes.
func Build(t kind.Type, l []int64) Value {
	var s survey
	if !s.right(t, deepest) {
		return Value{}
	}
	b := builder{numbers: l}
	return b.build(t)
}

// How far a survey goes. A type is right whatever its depth, but in memory one
// may contain itself, and then has no end, or may have more parts than there
// is memory for their values.
const (
	deepest   = 1000
	mostParts = 1 << 20
)

// survey counts the types in a type.
type survey struct {
	parts int
}

// right reports whether t, and each type in it, is right, and they are nested
// in this many levels at most.
func (s *survey) right(t kind.Type, levels int) bool {
	s.parts++
	if s.parts > mostParts || levels == 0 || !rightAlone(t) {
		return false
	}
	for _, part := range t.Of {
		if !s.right(part, levels-1) {
			return false
		}
	}
	return true
}

// rightAlone reports whether t would be right if its parts were. Bools stand in
// for those, since kind's Check also rejects a sixth level; but not for more
// than a type may have, which may be very many.
func rightAlone(t kind.Type) bool {
	if len(t.Of) > api.MaxNames {
		return false
	}
	t.Of = make([]kind.Type, len(t.Of))
	alone := kind.Table{Name: "a", Types: []kind.Alias{{Name: "t", Type: t}}}
	return alone.Check() == api.OK
}

// Of a Seq in a built value.
const (
	mostElements = 3
	mostBegun    = 100 // values: if there are more, it has no elements
)

// builder builds values, and counts them as they are begun.
type builder struct {
	numbers []int64
	taken   int
	begun   int
}

// take returns the next number, from 0 up, modulo m.
func (b *builder) take(m int) int64 {
	n := b.number() % int64(m)
	if n < 0 {
		n += int64(m)
	}
	return n
}

// number returns the next number; after the last one, the first follows.
func (b *builder) number() int64 {
	if len(b.numbers) == 0 {
		return 0
	}
	n := b.numbers[b.taken%len(b.numbers)]
	b.taken++
	return n
}

func (b *builder) build(t kind.Type) Value {
	b.begun++
	switch t.Kind {
	case kind.Bool:
		return Value{N: b.take(2)}
	case kind.Card:
		return Value{N: b.take(1 << 16)}
	case kind.Long:
		return Value{N: int64(int32(b.take(1 << 32)))}
	case kind.Real:
		return Value{F: float64(b.number())}
	case kind.Text:
		return Value{Text: letters(b.take(t.Most + 1))}
	case kind.Seq:
		return b.seq(t)
	case kind.Record:
		v := Value{}
		for _, part := range t.Of {
			v.Of = append(v.Of, b.build(part))
		}
		return v
	case kind.Enum:
		return Value{N: b.take(len(t.Names))}
	default: // a Choice, since a Ref is not right
		n := b.take(len(t.Of))
		return Value{N: n, Of: []Value{b.build(t.Of[n])}}
	}
}

func (b *builder) seq(t kind.Type) Value {
	v := Value{}
	if b.begun > mostBegun {
		return v
	}
	for range min(b.take(mostElements+1), int64(t.Most)) {
		v.Of = append(v.Of, b.build(t.Of[0]))
	}
	return v
}

// letters returns the first n letters; after z, a follows.
func letters(n int64) string {
	text := make([]byte, n)
	for i := range text {
		text[i] = 'a' + byte(i%26)
	}
	return string(text)
}
