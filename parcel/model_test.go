package parcel_test

import (
	"bytes"
	"hash/crc32"
	"math/bits"
	"slices"
	"sort"
	"testing"

	"prompter/api"
	"prompter/parcel"
)

const (
	size    = 48        // bytes of a parcel that is not the last one
	most    = 100       // parcels of a message
	held    = 16        // incomplete messages
	highest = 1<<32 - 1 // number of a message
)

// text returns bytes of which no two neighbours are the same, others for each
// seed.
func text(size, seed int) []byte {
	b := make([]byte, size)
	for i := range b {
		b[i] = byte((i+7*seed)%251 + 1)
	}
	return b
}

// part returns a parcel.
func part(from int, number uint32, i, many int, b []byte) parcel.Parcel {
	return parcel.Parcel{From: from, Letter: number, Part: i, Many: many, Bytes: b}
}

// same reports whether two parcels are equal; empty bytes are none.
func same(p, q parcel.Parcel) bool {
	return p.From == q.From && p.Letter == q.Letter && p.Part == q.Part && p.Many == q.Many && bytes.Equal(p.Bytes, q.Bytes)
}

// checked is a second Check by the chapter.
func checked(p parcel.Parcel) api.Errno {
	ranges := p.From >= 0 && p.From <= 15 && p.Many >= 1 && p.Many <= 100 && p.Part >= 0 && p.Part <= p.Many-1
	if !ranges {
		return api.ErrRange
	}
	last := p.Part == p.Many-1
	switch n := len(p.Bytes); {
	case n > 48:
		return api.ErrSize
	case n < 48 && !last:
		return api.ErrSize
	case n == 0 && p.Many > 1:
		return api.ErrSize
	}
	return api.OK
}

// words encodes numbers, the higher byte of each first.
func words(numbers ...int) []byte {
	var b []byte
	for _, n := range numbers {
		b = append(b, byte(n>>8), byte(n))
	}
	return b
}

// summed returns b followed by its sum, which is worked out another way: the
// library's is the same division, with the bits of each byte and of the sum in
// the other order.
func summed(b []byte) []byte {
	turned := make([]byte, len(b))
	for i, c := range b {
		turned[i] = bits.Reverse8(c)
	}
	n := int(bits.Reverse32(crc32.ChecksumIEEE(turned)))
	return append(slices.Clone(b), words(n>>16, n)...)
}

// plain is what Put encodes before the sum, of any parcel.
func plain(p parcel.Parcel) []byte {
	b := words(p.From, int(p.Letter>>16), int(p.Letter), p.Part, p.Many, len(p.Bytes))
	b = append(b, p.Bytes...)
	return append(b, make([]byte, len(p.Bytes)%2)...)
}

// encoded is the encoding by the chapters.
func encoded(p parcel.Parcel) []byte {
	return summed(plain(p))
}

// word returns the Word at byte at.
func word(b []byte, at int) int {
	return int(b[at])<<8 + int(b[at+1])
}

// taken is a recognizer by the chapters: the parcel of which b is the
// encoding, if it is one of any.
func taken(b []byte) (parcel.Parcel, bool) {
	if len(b) < 16 || len(b)%2 != 0 {
		return parcel.Parcel{}, false
	}
	many := word(b, 10)
	if len(b) != 16+many+many%2 {
		return parcel.Parcel{}, false
	}
	p := part(word(b, 0), uint32(word(b, 2)<<16+word(b, 4)), word(b, 6), word(b, 8), b[12:12+many])
	return p, checked(p) == api.OK && bytes.Equal(encoded(p), b)
}

// wantCheck checks the error of a parcel that is not valid: that of Check and
// of Put.
func wantCheck(t *testing.T, p parcel.Parcel, e api.Errno) {
	t.Helper()
	if got := p.Check(); got != e {
		t.Errorf("Check of %v: error %d, want %d", p, got, e)
	}
	if b, got := p.Put(); got != e || len(b) != 0 {
		t.Errorf("Put of %v: % x, error %d, want %d", p, b, got, e)
	}
}

// wantParcel checks a valid parcel: its bytes, and what is taken from them.
func wantParcel(t *testing.T, p parcel.Parcel) {
	t.Helper()
	if e := p.Check(); e != api.OK {
		t.Errorf("Check of %v: error %d", p, e)
	}
	b, e := p.Put()
	if e != api.OK || !bytes.Equal(b, encoded(p)) {
		t.Errorf("Put of %v: % x, error %d, want % x", p, b, e, encoded(p))
	}
	if q, e := parcel.Take(b); e != api.OK || !same(p, q) {
		t.Errorf("%v is taken as %v, error %d", p, q, e)
	}
}

// wantAsChecked checks all of a parcel, whether it is valid or not.
func wantAsChecked(t *testing.T, p parcel.Parcel) {
	t.Helper()
	if e := checked(p); e != api.OK {
		wantCheck(t, p, e)
	} else {
		wantParcel(t, p)
	}
}

// wantNoParcel checks that bytes are not taken, with a wrong sum or, unless
// spoilt, with another error.
func wantNoParcel(t *testing.T, b []byte, spoilt bool) {
	t.Helper()
	p, e := parcel.Take(b)
	if e == api.OK || spoilt != (e == api.ErrSum) {
		t.Errorf("Take of % .100x: error %d, spoilt: %t", b, e, spoilt)
	}
	if !zero(p) {
		t.Errorf("Take of % .100x: %v beside error %d", b, p, e)
	}
}

// zero reports whether a parcel is zero.
func zero(p parcel.Parcel) bool {
	return same(p, parcel.Parcel{}) && len(p.Bytes) == 0
}

// rightly reports whether the last four bytes are the sum of those before.
func rightly(b []byte) bool {
	return len(b) >= 4 && bytes.Equal(summed(b[:len(b)-4]), b)
}

// wantAsTaken checks what is taken from any bytes.
func wantAsTaken(t *testing.T, b []byte) {
	t.Helper()
	p, ok := taken(b)
	if !ok {
		wantNoParcel(t, b, !rightly(b))
	} else if q, e := parcel.Take(b); e != api.OK || !same(p, q) {
		t.Errorf("Take of % .100x: %v, error %d, want %v", b, q, e, p)
	}
}

// model is a second Table by the chapter: a list of all stored parts in the
// order of their Put, in which the oldest message is the first part's, since
// all parts of a message are removed at once.
type model struct {
	stored []parcel.Parcel
	done   []parcel.Parcel // a part of each message that was complete
}

// alike reports whether two parcels are of one message.
func alike(p, q parcel.Parcel) bool {
	return p.From == q.From && p.Letter == q.Letter
}

// of returns the stored parts of a parcel's message, as they come in it.
func (m *model) of(p parcel.Parcel) []parcel.Parcel {
	var l []parcel.Parcel
	for _, q := range m.stored {
		if alike(p, q) {
			l = append(l, q)
		}
	}
	sort.Slice(l, func(i, j int) bool { return l[i].Part < l[j].Part })
	return l
}

// remove removes all parts of a parcel's message.
func (m *model) remove(p parcel.Parcel) {
	m.stored = slices.DeleteFunc(m.stored, func(q parcel.Parcel) bool { return alike(p, q) })
}

// len returns how many messages the stored parts are of.
func (m *model) len() int {
	many := 0
	for i, p := range m.stored {
		if !slices.ContainsFunc(m.stored[:i], func(q parcel.Parcel) bool { return alike(p, q) }) {
			many++
		}
	}
	return many
}

// put does what Put does.
func (m *model) put(p parcel.Parcel) ([]byte, bool) {
	if checked(p) != api.OK || slices.ContainsFunc(m.done, func(q parcel.Parcel) bool { return alike(p, q) }) {
		return nil, false
	}
	for _, q := range m.of(p) {
		if q.Part == p.Part || q.Many != p.Many {
			return nil, false
		}
	}
	p.Bytes = slices.Clone(p.Bytes)
	m.stored = append(m.stored, p)
	if m.len() > held {
		m.remove(m.stored[0])
	}
	all := m.of(p)
	if len(all) < p.Many {
		return nil, false
	}
	m.remove(p)
	m.done = append(m.done, p)
	var b []byte
	for _, q := range all {
		b = append(b, q.Bytes...)
	}
	return b, true
}

// wantPut checks that the last part of a message makes it complete.
func wantPut(t *testing.T, table *parcel.Table, p parcel.Parcel, b []byte) {
	t.Helper()
	if got, ok := table.Put(p); !ok || !bytes.Equal(got, b) {
		t.Errorf("Put of %v: % x, %t, want % x", p, got, ok, b)
	}
}

// wantNone checks that a part makes no message complete.
func wantNone(t *testing.T, table *parcel.Table, p parcel.Parcel) {
	t.Helper()
	if b, ok := table.Put(p); ok || len(b) != 0 {
		t.Errorf("Put of %v: % x, %t", p, b, ok)
	}
}

// wantLen checks how many messages are incomplete.
func wantLen(t *testing.T, table *parcel.Table, many int) {
	t.Helper()
	if got := table.Len(); got != many {
		t.Errorf("Len %d, want %d", got, many)
	}
}

// wantStep puts a part into a table and into its model, and compares them.
func wantStep(t *testing.T, table *parcel.Table, m *model, p parcel.Parcel) {
	t.Helper()
	got, ok := table.Put(p)
	want, there := m.put(p)
	if ok != there || !bytes.Equal(got, want) {
		t.Fatalf("Put of %v: % x, %t, want % x, %t", p, got, ok, want, there)
	}
	if table.Len() != m.len() {
		t.Fatalf("Len %d after Put of %v, want %d", table.Len(), p, m.len())
	}
}

// cut returns the parcels of a message by the chapter.
func cut(from int, number uint32, b []byte) []parcel.Parcel {
	var l []parcel.Parcel
	for rest := b; len(l) == 0 || len(rest) > 0; rest = rest[min(size, len(rest)):] {
		l = append(l, part(from, number, len(l), 0, rest[:min(size, len(rest))]))
	}
	for i := range l {
		l[i].Many = len(l)
	}
	return l
}
