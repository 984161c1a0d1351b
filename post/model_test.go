package post_test

import (
	"bytes"
	"math"
	"math/big"
	"slices"
	"testing"

	"prompter/post"
)

const (
	most    = 400 // packets in flight
	lowest  = math.MinInt
	highest = math.MaxInt
	full    = math.MaxUint32 // the mask of all bits
)

// text returns bytes of which no two neighbours are the same, others for each
// seed.
func text(size, seed int) []byte {
	b := make([]byte, size)
	for i := range b {
		b[i] = byte((i+7*seed)%251 + 1)
	}
	return b
}

// packet is a packet of the model; its bytes are a string, which nothing can
// change.
type packet struct {
	to     int
	bytes  string
	spoilt bool
}

// model is a second Post by the chapter; each act makes a new list.
type model []packet

// has reports whether there is such a packet.
func (m model) has(i int) bool {
	return 0 <= i && i <= len(m)-1
}

// with returns the model with a packet more, or as it is and false.
func (m model) with(p packet) (model, bool) {
	if len(m) == most {
		return m, false
	}
	return append(slices.Clone(m), p), true
}

// without returns the model without a packet.
func (m model) without(i int) model {
	return slices.Concat(m[:i], m[i+1:])
}

// spoil returns the model with a packet spoilt, or as it is and false.
func (m model) spoil(i, from int, mask uint32) (model, bool) {
	if !m.has(i) || m[i].spoilt || mask == 0 || len(m[i].bytes) < 4 {
		return m, false
	}
	p := packet{m[i].to, turned(m[i].bytes, from, mask), true}
	return slices.Concat(m[:i], model{p}, m[i+1:]), true
}

// turned returns a packet's bytes, spoilt: they are worked out as one number,
// in which the mask is shifted to its place.
func turned(b string, from int, mask uint32) string {
	many := big.NewInt(8 * int64(len(b)))
	room := new(big.Int).Sub(many, big.NewInt(31))
	at := new(big.Int).Mod(big.NewInt(int64(from)), room) // Mod's results are from 0 up
	behind := new(big.Int).Sub(many, big.NewInt(32))
	behind.Sub(behind, at)
	x := new(big.Int).SetBytes([]byte(b))
	x.Xor(x, new(big.Int).Lsh(new(big.Int).SetUint64(uint64(mask)), uint(behind.Uint64())))
	return string(x.FillBytes(make([]byte, len(b))))
}

// is reports whether a packet in flight is that of the model; no bytes may be
// nil or empty.
func (p packet) is(f post.Flight) bool {
	return f.To == p.to && string(f.Bytes) == p.bytes && f.Spoilt == p.spoilt
}

// zero reports whether a packet in flight is none.
func zero(f post.Flight) bool {
	return f.To == 0 && len(f.Bytes) == 0 && !f.Spoilt
}

// wantNone checks that there is no packet of an index: nothing finds it, nor
// changes anything.
func wantNone(t *testing.T, p *post.Post, i int) {
	t.Helper()
	many := p.Len()
	if f, ok := p.Look(i); ok || !zero(f) {
		t.Errorf("Look(%d) of %d: %v, %t", i, many, f, ok)
	}
	if f, ok := p.Take(i); ok || !zero(f) {
		t.Errorf("Take(%d) of %d: %v, %t", i, many, f, ok)
	}
	if p.Copy(i) {
		t.Errorf("Copy(%d) of %d", i, many)
	}
	if p.Spoil(i, 0, full) {
		t.Errorf("Spoil(%d) of %d", i, many)
	}
	if p.Len() != many {
		t.Errorf("Len %d, want %d", p.Len(), many)
	}
}

// wantPost checks all packets in flight.
func wantPost(t *testing.T, p *post.Post, m model) {
	t.Helper()
	if p.Len() != len(m) {
		t.Fatalf("Len %d, want %d", p.Len(), len(m))
	}
	for i, want := range m {
		if f, ok := p.Look(i); !ok || !want.is(f) {
			t.Fatalf("Look(%d) of %d: %v, %t, want %v", i, len(m), f, ok, want)
		}
	}
	wantNone(t, p, -1)
	wantNone(t, p, len(m))
}

// filled returns a post of many packets, to 0 and on, of different bytes and of
// different lengths from 4 up, and its model.
func filled(t *testing.T, many int) (*post.Post, model) {
	t.Helper()
	var p post.Post
	var m model
	for n := range many {
		b := text(4+n%9, n)
		if !p.Send(n, b) {
			t.Fatalf("Send of packet %d", n)
		}
		m = append(m, packet{n, string(b), false})
	}
	return &p, m
}

// act is something that is done to a post.
type act struct {
	what    byte // of "sltcx": Send, Look, Take, Copy, Spoil
	i, from int  // i is Send's to
	mask    uint32
	bytes   []byte
}

// do does an act, and returns its results.
func do(p *post.Post, a act) (post.Flight, bool) {
	switch a.what {
	case 's':
		return post.Flight{}, p.Send(a.i, a.bytes)
	case 'l':
		return p.Look(a.i)
	case 't':
		return p.Take(a.i)
	case 'c':
		return post.Flight{}, p.Copy(a.i)
	}
	return post.Flight{}, p.Spoil(a.i, a.from, a.mask)
}

// do does an act to the model, and returns what it is then, and the results.
func (m model) do(a act) (model, packet, bool) {
	ok := m.has(a.i)
	switch {
	case a.what == 's':
		m, ok = m.with(packet{a.i, string(a.bytes), false})
	case !ok:
	case a.what == 'l':
		return m, m[a.i], true
	case a.what == 't':
		return m.without(a.i), m[a.i], true
	case a.what == 'c':
		m, ok = m.with(m[a.i])
	default:
		m, ok = m.spoil(a.i, a.from, a.mask)
	}
	return m, packet{}, ok
}

// wantStep does an act to a post and to its model, compares the results and how
// many packets there are, and returns the model as it is then.
func wantStep(t *testing.T, p *post.Post, m model, a act) model {
	t.Helper()
	f, ok := do(p, a)
	m, want, there := m.do(a)
	if ok != there || !want.is(f) {
		t.Fatalf("%c %v: %v, %t, want %v, %t", a.what, a, f, ok, want, there)
	}
	if p.Len() != len(m) {
		t.Fatalf("%c %v: Len %d, want %d", a.what, a, p.Len(), len(m))
	}
	return m
}

// wantBytes checks a packet's bytes.
func wantBytes(t *testing.T, p *post.Post, i int, want []byte) {
	t.Helper()
	if f, ok := p.Look(i); !ok || !bytes.Equal(f.Bytes, want) {
		t.Errorf("packet %d: % x, %t, want % x", i, f.Bytes, ok, want)
	}
}
