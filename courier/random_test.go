package courier_test

import (
	"encoding/binary"
	"math"
	"math/rand"
	"slices"
	"testing"

	"prompter/api"
	"prompter/courier"
	"prompter/kind"
	"prompter/value"
)

// randomType returns a right type.
func randomType(r *rand.Rand, levels int) kind.Type {
	many := []int{1, 1, 2, 2, 3, 5, 12}[r.Intn(7)]
	parts := func() (of []kind.Type) {
		for range many {
			of = append(of, randomType(r, levels-1))
		}
		return of
	}
	k := kind.Kind(r.Intn(6))
	if levels > 1 && r.Intn(4) > 0 {
		k = []kind.Kind{kind.Seq, kind.Record, kind.Choice}[r.Intn(3)]
	}
	switch k {
	case kind.Text:
		return text([]int{1, 2, 3, 4, 60}[r.Intn(5)])
	case kind.Seq:
		if levels == 1 {
			return enum(many)
		}
		return seq([]int{1, 2, 3, 4, 60}[r.Intn(5)], randomType(r, levels-1))
	case kind.Record:
		return record(parts()...)
	case kind.Choice:
		return choice(parts()...)
	}
	return plain(k)
}

// randomValue returns a value of x, with at most so many elements.
func randomValue(r *rand.Rand, x kind.Type, elements int) value.Value {
	switch x.Kind {
	case kind.Bool:
		return num(int64(r.Intn(2)))
	case kind.Card:
		return num(int64(r.Intn(65536)))
	case kind.Long:
		return num(int64(int32(r.Uint32())))
	case kind.Real:
		return bits([]uint64{0, 1 << 63, 0x3fe0000000000000, 0x7ff0000000000000, 0xfff0000000000000, 0x7ff8000000000000, r.Uint64()}[r.Intn(7)])
	case kind.Text:
		b := make([]byte, r.Intn(min(x.Most, 5)+1))
		r.Read(b)
		return str(string(b))
	case kind.Enum:
		return num(int64(r.Intn(len(x.Names))))
	case kind.Seq:
		var v value.Value
		for range r.Intn(min(x.Most, elements) + 1) {
			v.Of = append(v.Of, randomValue(r, x.Of[0], elements/2))
		}
		return v
	case kind.Record:
		var v value.Value
		for _, part := range x.Of {
			v.Of = append(v.Of, randomValue(r, part, elements))
		}
		return v
	}
	n := r.Intn(len(x.Of))
	return pick(int64(n), randomValue(r, x.Of[n], elements))
}

// encoded encodes a value of a right type in another way: each kind's own
// number of bytes, cut from a great number, and then the parts.
func encoded(x kind.Type, v value.Value) []byte {
	n := uint64(v.N)
	switch x.Kind {
	case kind.Real:
		if n = math.Float64bits(v.F); v.F != v.F {
			n = 0x7ff8 << 48
		}
	case kind.Text:
		n = uint64(len(v.Text))
	case kind.Seq:
		n = uint64(len(v.Of))
	}
	width := 2
	switch x.Kind {
	case kind.Record:
		width = 0
	case kind.Long:
		width = 4
	case kind.Real:
		width = 8
	}
	b := binary.BigEndian.AppendUint64(nil, n)[8-width:]
	b = append(b, v.Text...)
	b = append(b, make([]byte, len(v.Text)%2)...)
	for i, part := range v.Of {
		switch x.Kind {
		case kind.Seq:
			i = 0
		case kind.Choice:
			i = int(v.N)
		}
		b = append(b, encoded(x.Of[i], part)...)
	}
	return b
}

// rest recognizes an encoding of some value of a right type at the beginning
// of b. It returns what follows, and false if there is none.
func rest(x kind.Type, b []byte) ([]byte, bool) {
	word := func(end int) (n int, ok bool) {
		if len(b) < 2 {
			return 0, false
		}
		n = int(b[0])*256 + int(b[1])
		b = b[2:]
		return n, n < end
	}
	many := func(types ...kind.Type) ([]byte, bool) {
		ok := true
		for i := 0; i < len(types) && ok; i++ {
			b, ok = rest(types[i], b)
		}
		return b, ok
	}
	switch x.Kind {
	case kind.Record:
		return many(x.Of...)
	case kind.Long:
		return b[min(4, len(b)):], len(b) >= 4
	case kind.Real:
		if len(b) < 8 {
			return nil, false
		}
		f := math.Float64frombits(binary.BigEndian.Uint64(b))
		return b[8:], !math.IsNaN(f) || string(b[:8]) == "\x7f\xf8\x00\x00\x00\x00\x00\x00"
	}
	ends := map[kind.Kind]int{kind.Bool: 2, kind.Card: 65536, kind.Text: x.Most + 1, kind.Seq: x.Most + 1, kind.Enum: len(x.Names), kind.Choice: len(x.Of)}
	n, ok := word(ends[x.Kind])
	switch {
	case !ok:
		return nil, false
	case x.Kind == kind.Text:
		m := n + n%2
		return b[min(m, len(b)):], len(b) >= m && (n == m || b[n] == 0)
	case x.Kind == kind.Seq:
		return many(times(n, x.Of[0])...)
	case x.Kind == kind.Choice:
		return many(x.Of[n])
	}
	return b, true
}

// wantDecided checks that Take accepts b if, and only if, it is an encoding,
// and then that it is the encoding of what is returned.
func wantDecided(t *testing.T, x kind.Type, b []byte) bool {
	t.Helper()
	left, ok := rest(x, b)
	if !ok || len(left) > 0 {
		wantRejected(t, x, b)
		return false
	}
	v, e := courier.Take(x, b)
	if e != api.OK || value.Check(x, v) != api.OK || !slices.Equal(encoded(x, v), b) {
		t.Errorf("Take(%v, %s): %v, error %d", x, short(b), v, e)
	}
	wantPut(t, x, v, b)
	return true
}

func TestP9_1Random(t *testing.T) {
	r := rand.New(rand.NewSource(91))
	large := 0
	for range 20000 {
		x := randomType(r, 1+r.Intn(5))
		v := randomValue(r, x, 6)
		b := encoded(x, v)
		if len(b) > 4000 {
			large++
			wantNoPut(t, x, v, api.ErrSize)
			wantTooLong(t, x, b)
			continue
		}
		wantPut(t, x, v, b)
		wantTaken(t, x, b, v)
	}
	if large > 2000 {
		t.Errorf("%d are too large", large)
	}
}

// changed returns b with something changed.
func changed(r *rand.Rand, b []byte) []byte {
	b = slices.Clone(b)
	at := r.Intn(len(b) + 1)
	switch r.Intn(5) {
	case 0:
		return b[:at]
	case 1:
		return slices.Insert(b, at, make([]byte, 1+r.Intn(3))...)
	case 2:
		return slices.Delete(b, at, min(len(b), at+1+r.Intn(4)))
	case 3:
		return append(b, b[at:]...)
	}
	if at < len(b) {
		b[at] = []byte{b[at] + 1, b[at] - 1, b[at] ^ 1<<r.Intn(8), byte(r.Intn(256)), 0, 1}[r.Intn(6)]
	}
	return b
}

// Encodings that were changed somewhere, and those of other types' values.
func TestP9_1RandomBytes(t *testing.T) {
	r := rand.New(rand.NewSource(92))
	accepted, rejected := 0, 0
	for range 30000 {
		x := randomType(r, 1+r.Intn(4))
		b := encoded(x, randomValue(r, x, 4))
		for range r.Intn(4) {
			b = changed(r, b)
		}
		if r.Intn(4) == 0 {
			x = randomType(r, 1+r.Intn(3))
		}
		if len(b) > 4000 {
			continue
		}
		if wantDecided(t, x, b) {
			accepted++
		} else {
			rejected++
		}
	}
	if accepted < 5000 || rejected < 5000 {
		t.Errorf("%d accepted, %d rejected", accepted, rejected)
	}
}

// All words, and all longer bytes of a few, for small types.
func TestP9_1All(t *testing.T) {
	small := []kind.Type{
		plain(kind.Bool), plain(kind.Card), plain(kind.Long), text(1), text(2), enum(1), enum(2), seq(2, plain(kind.Bool)), seq(1, plain(kind.Card)), seq(2, text(1)), seq(1, seq(1, enum(2))),
		record(plain(kind.Bool)), record(plain(kind.Bool), text(1)), record(enum(2), plain(kind.Long)), choice(plain(kind.Bool)), choice(enum(1), text(2)), choice(plain(kind.Card), plain(kind.Long)), choice(seq(1, enum(1)), choice(plain(kind.Bool))),
	}
	for _, x := range small {
		for n := range 1 << 16 {
			wantDecided(t, x, []byte{byte(n >> 8), byte(n)})
		}
		all := [][]byte{{}}
		for range 6 {
			var longer [][]byte
			for _, b := range all {
				for _, c := range []byte{0, 1, 2, 128} {
					longer = append(longer, append(slices.Clone(b), c))
				}
			}
			for _, b := range longer {
				wantDecided(t, x, b)
			}
			all = longer
		}
	}
}

// P7: the values that are built for the types of procedures, up to 20 levels.
func TestP7(t *testing.T) {
	r := rand.New(rand.NewSource(97))
	for range 2000 {
		var table kind.Table
		x := randomType(r, 2)
		for i := range 6 {
			name := string(rune('a' + i))
			table.Types = append(table.Types, kind.Alias{Name: name, Type: x})
			x = []kind.Type{ref(name), seq(3, ref(name)), record(ref(name), plain(kind.Bool)), choice(text(5), ref(name)), seq(2, choice(ref(name)))}[r.Intn(5)]
		}
		whole, e := table.Whole(x)
		if e == api.ErrSize {
			continue
		}
		v := value.Build(whole, []int64{r.Int63(), r.Int63(), -r.Int63(), int64(r.Intn(5)), 2})
		b := encoded(whole, v)
		wantPut(t, whole, v, b)
		wantTaken(t, whole, b, v)
	}
}
