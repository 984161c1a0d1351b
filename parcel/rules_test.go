package parcel_test

import (
	"bytes"
	"math"
	"math/rand"
	"slices"
	"testing"

	"prompter/api"
	"prompter/parcel"
)

// anyParcel returns a parcel in which some things may not be.
func anyParcel(r *rand.Rand) parcel.Parcel {
	p := randomParcel(r)
	for _, n := range []*int{&p.From, &p.Part, &p.Many} {
		if r.Intn(6) == 0 {
			*n = some(r, -1, 0, 1, 15, 16, 99, 100, 101, int(r.Uint64())>>r.Intn(64))
		}
	}
	if r.Intn(6) == 0 {
		p.Bytes = text(some(r, 0, 1, 47, 48, 49, 96, r.Intn(70)), 1)
	}
	return p
}

// P1: parcels of any numbers and lengths, through every function.
func TestP1Any(t *testing.T) {
	r := rand.New(rand.NewSource(1))
	var table parcel.Table
	for range 100000 {
		p := anyParcel(r)
		wantAsChecked(t, p)
		if b, ok := table.Put(p); ok && (checked(p) != api.OK || len(b) > 4800) {
			t.Fatalf("Put of %v: % x", p, b)
		}
		if n := table.Len(); n < 0 || n > held {
			t.Fatalf("Len %d", n)
		}
	}
	edges := []int{math.MinInt, -1 << 32, -1, 0, 1, 15, 16, 99, 100, 101, 1 << 32, math.MaxInt}
	for _, from := range edges {
		for _, i := range edges {
			for _, many := range edges {
				for _, n := range []int{0, 1, 48, 49, 1 << 16} {
					p := part(from, highest, i, many, text(n, 1))
					wantAsChecked(t, p)
					table.Put(p)
				}
			}
		}
	}
}

// P1, P8: any bytes, few and many, with a right sum and without.
func TestP1Bytes(t *testing.T) {
	r := rand.New(rand.NewSource(2))
	for n := range 3000 {
		b := make([]byte, n)
		wantAsTaken(t, b)
		wantAsTaken(t, summed(b))
		r.Read(b)
		wantAsTaken(t, b)
		wantAsTaken(t, summed(b))
		if n >= 12 {
			copy(b, words(n%18, n, n, n%3, n%5, max(0, n-12)%60))
			wantAsTaken(t, summed(b))
		}
	}
	for n := range 256 {
		wantAsTaken(t, bytes.Repeat([]byte{byte(n)}, 1<<12))
		wantAsTaken(t, summed(bytes.Repeat([]byte{0, byte(n)}, n)))
	}
	wantAsTaken(t, make([]byte, 1<<20))
}

// R1: numbers have 64 bits: none is cut before it is checked.
func TestR1(t *testing.T) {
	if math.MaxInt != math.MaxInt64 {
		t.Error("int has not 64 bits")
	}
	for _, n := range []int{1 << 8, 1 << 16, 1 << 32, 1 << 33, 1 << 62, -1 << 16, -1 << 32} {
		wantCheck(t, part(n+1, 2, 0, 1, nil), api.ErrRange)
		wantCheck(t, part(1, 2, n, 1, nil), api.ErrRange)
		wantCheck(t, part(1, 2, 0, n+1, nil), api.ErrRange)
		wantCheck(t, part(1, 2, n, n+1, nil), api.ErrRange)
		wantNoCut(t, n+1, nil, api.ErrRange)
		var table parcel.Table
		wantNone(t, &table, part(n+1, 2, 0, 1, nil))
		wantNone(t, &table, part(1, 2, n, 1, nil))
		wantNone(t, &table, part(1, 2, 0, n+1, nil))
		wantLen(t, &table, 0)
	}
}

// R2: of two errors the first: numbers before sizes, and a sum before both.
func TestR2(t *testing.T) {
	for _, n := range []int{0, 1, 47, 49, 4801} {
		wantCheck(t, part(16, 0, 0, 2, text(n, 0)), api.ErrRange)
		wantCheck(t, part(-1, 0, 0, 2, text(n, 0)), api.ErrRange)
		wantCheck(t, part(0, 0, 2, 2, text(n, 0)), api.ErrRange)
		wantCheck(t, part(0, 0, -1, 2, text(n, 0)), api.ErrRange)
		wantCheck(t, part(0, 0, 0, 101, text(n, 0)), api.ErrRange)
		wantCheck(t, part(0, 0, 0, 0, text(n, 0)), api.ErrRange)
		wantCheck(t, part(0, 0, 0, 2, text(n, 0)), api.ErrSize)
		b := encoded(part(16, 0, 0, 2, text(n, 0)))
		wantNoParcel(t, b, false)
		b[3] ^= 1
		wantNoParcel(t, b, true)
	}
	wantNoCut(t, 16, text(4801, 0), api.ErrRange)
	wantNoCut(t, -1, text(4801, 0), api.ErrRange)
	wantNoCut(t, 0, text(4801, 0), api.ErrSize)
}

// R3: beside an error there are no bytes, no parcels, and a zero parcel, though
// all of it but a byte was right; beside false there are no bytes.
func TestR3(t *testing.T) {
	for _, p := range samples() {
		wantNoParcel(t, summed(append(plain(p), 0)), false)
		wantNoParcel(t, summed(plain(p)[:len(plain(p))-1]), false)
		p.From += 16
		if b, e := p.Put(); e != api.ErrRange || b != nil {
			t.Errorf("Put of %v: % x, error %d", p, b, e)
		}
		if q, e := parcel.Take(encoded(p)); e != api.ErrRange || !zero(q) {
			t.Errorf("Take of %v: %v, error %d", p, q, e)
		}
	}
	if l, e := parcel.Cut(0, 1, text(4801, 0)); e != api.ErrSize || l != nil {
		t.Errorf("Cut: %d parcels, error %d", len(l), e)
	}
	var table parcel.Table
	for _, p := range []parcel.Parcel{part(0, 0, 0, 2, text(size, 1)), part(0, 0, 0, 2, text(size, 1)), part(0, 0, 1, 3, text(size, 1)), {}} {
		if b, ok := table.Put(p); ok || b != nil {
			t.Errorf("Put of %v: % x, %t", p, b, ok)
		}
	}
}

// R4: what is not stored changes nothing: not which messages are incomplete,
// nor which is the oldest, nor their parts.
func TestR4(t *testing.T) {
	r := rand.New(rand.NewSource(4))
	for range 200 {
		var table, plain parcel.Table
		for _, p := range deck(r, 40) {
			for range 3 {
				refused(r, &table, p)
			}
			a, x := table.Put(p)
			b, y := plain.Put(p)
			if x != y || !bytes.Equal(a, b) || table.Len() != plain.Len() {
				t.Fatalf("Put of %v: % x, %t, want % x, %t", p, a, x, b, y)
			}
		}
	}
}

// refused puts a parcel that is not valid, of any message, and asks for Len.
func refused(r *rand.Rand, table *parcel.Table, p parcel.Parcel) {
	switch r.Intn(4) {
	case 0:
		p.From += 16
	case 1:
		p.Part += p.Many
	case 2:
		p.Many = -p.Many
	case 3:
		p.Bytes = text(size+1, 1)
	}
	table.Put(p)
	table.Len()
}

// R5: no bytes may be nil or empty.
func TestR5(t *testing.T) {
	none, empty := part(1, 2, 0, 1, nil), part(1, 2, 0, 1, []byte{})
	a, e := none.Put()
	b, f := empty.Put()
	if e != api.OK || f != api.OK || !bytes.Equal(a, b) {
		t.Errorf("% x, error %d, and % x, error %d", a, e, b, f)
	}
	wantCheck(t, part(1, 2, 0, 2, nil), api.ErrSize)
	wantCheck(t, part(1, 2, 0, 2, []byte{}), api.ErrSize)
	wantNoParcel(t, nil, true)
	wantNoParcel(t, []byte{}, true)
	for _, b := range [][]byte{nil, {}} {
		l, e := parcel.Cut(1, 2, b)
		if e != api.OK || len(l) != 1 || !same(l[0], none) {
			t.Errorf("Cut: %v, error %d", l, e)
		}
		var table parcel.Table
		wantPut(t, &table, part(1, 2, 0, 1, b), nil)
		wantNone(t, &table, part(1, 2, 0, 1, b))
		wantLen(t, &table, 0)
	}
}

// roomy returns b with spare capacity that has something in it.
func roomy(b []byte) []byte {
	return append(slices.Clone(b), "MNOP"...)[:len(b)]
}

// wantClean checks that nothing of b, nor behind it, was changed since roomy.
func wantClean(t *testing.T, what string, b, was []byte) {
	t.Helper()
	if string(b[:len(b)+4]) != string(was)+"MNOP" {
		t.Errorf("%s: % x became % x", what, was, b[:len(b)+4])
	}
}

// wipe overwrites bytes, also behind their end.
func wipe(b []byte) {
	clear(b[:cap(b)])
}

// R6: Check, Put and Take change nothing that they are given, and keep nothing
// of it in what they return.
func TestR6Parcel(t *testing.T) {
	for _, was := range samples() {
		p := was
		p.Bytes = roomy(was.Bytes)
		p.Check()
		b, _ := p.Put()
		c, _ := p.Put()
		wantClean(t, "Put", p.Bytes, was.Bytes)
		wipe(b)
		wipe(p.Bytes)
		if !bytes.Equal(c, encoded(was)) {
			t.Errorf("% x became % x", encoded(was), c)
		}
		c = roomy(c)
		one, _ := parcel.Take(c)
		other, _ := parcel.Take(c)
		parcel.Take(c[:len(c)-1])
		wantClean(t, "Take", c, encoded(was))
		wipe(one.Bytes)
		wipe(c)
		if !same(other, was) {
			t.Errorf("%v became %v", was, other)
		}
	}
}

// R6: Cut changes nothing of the message; the bytes of each parcel are its own,
// also behind their end.
func TestR6Cut(t *testing.T) {
	for _, n := range lengths {
		b := roomy(text(n, n))
		l, _ := parcel.Cut(1, 2, b)
		again, _ := parcel.Cut(1, 2, b)
		wantClean(t, "Cut", b, text(n, n))
		for i := range l {
			wipe(l[i].Bytes)
			l[i].Bytes = append(l[i].Bytes, 0)
			if i+1 < len(l) && !same(l[i+1], again[i+1]) {
				t.Errorf("Cut of %d bytes: parts %d and %d share theirs", n, i, i+1)
			}
		}
		wipe(b)
		for i, p := range cut(1, 2, text(n, n)) {
			if !same(again[i], p) {
				t.Errorf("Cut of %d bytes: part %d became %v", n, i, again[i])
			}
		}
	}
	parcel.Cut(16, 2, roomy(text(9, 0)))
}

// R6: a Table changes no part, and neither keeps it nor hands it out.
func TestR6Table(t *testing.T) {
	for _, n := range lengths {
		var table parcel.Table
		want := text(n, n)
		for _, was := range cut(1, 2, want) {
			p := was
			p.Bytes = roomy(was.Bytes)
			b, ok := table.Put(p)
			table.Put(p) // this time it is there, or its message was complete
			wantClean(t, "Put", p.Bytes, was.Bytes)
			wipe(p.Bytes)
			if last := p.Part == p.Many-1; ok != last || last && !bytes.Equal(b, want) {
				t.Errorf("part %d of %d bytes: % x, %t", p.Part, n, b, ok)
			}
			wipe(b)
		}
		wantOrder(t, &table, cut(2, 2, want), down(max(1, (n+47)/48)), want)
	}
}

// R6: one argument that is changed and put again has two parts.
func TestR6Shared(t *testing.T) {
	var table parcel.Table
	shared := text(size, 1)
	wantNone(t, &table, part(0, 0, 0, 3, shared))
	copy(shared, text(size, 2))
	wantNone(t, &table, part(0, 0, 1, 3, shared))
	copy(shared, text(size, 3))
	b, ok := table.Put(part(0, 0, 2, 3, shared))
	clear(shared)
	if want := slices.Concat(text(size, 1), text(size, 2), text(size, 3)); !ok || !bytes.Equal(b, want) {
		t.Errorf("% x, %t, want % x", b, ok, want)
	}
}

// R7: a nil Table has nothing and does nothing.
func TestR7(t *testing.T) {
	var table *parcel.Table
	for range 2 {
		for _, p := range append(samples(), parcel.Parcel{}, part(-1, 0, -1, -1, nil)) {
			wantNone(t, table, p)
			wantLen(t, table, 0)
		}
	}
}

// R8: nothing but the parts of the same table matters: not those of others,
// between or beside them.
func TestR8(t *testing.T) {
	r := rand.New(rand.NewSource(8))
	for range 50 {
		tables, models := make([]parcel.Table, 6), make([]model, 6)
		l := deck(r, 60)
		for range 6 * len(l) {
			i := r.Intn(6)
			wantStep(t, &tables[i], &models[i], l[r.Intn(len(l))])
		}
	}
}

// R8: the same parts in tables that are used at the same time, each by one.
func TestR8Beside(t *testing.T) {
	l := deck(rand.New(rand.NewSource(9)), 60)
	done := make(chan bool)
	for range 4 {
		go func() {
			defer func() { done <- true }()
			var table parcel.Table
			var m model
			for _, p := range l {
				got, ok := table.Put(p)
				if want, there := m.put(p); ok != there || !bytes.Equal(got, want) || table.Len() != m.len() {
					t.Errorf("Put of %v: % x, %t, want % x, %t", p, got, ok, want, there)
				}
				wantAsChecked(t, p)
			}
		}()
	}
	for range 4 {
		<-done
	}
}
