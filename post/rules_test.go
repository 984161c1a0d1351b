package post_test

import (
	"bytes"
	"math"
	"math/rand"
	"slices"
	"testing"

	"prompter/post"
)

// edges are indexes and bits at and around all limits.
var edges = []int{
	lowest, lowest + 1, -1 << 32, math.MinInt32, -401, -400, -256, -33, -32, -31, -1, 0, 1, 2, 3, 4, 31, 32, 33, 255, 256, 398, 399, 400, 401,
	math.MaxInt32, 1 << 32, 1<<32 + 1, 1 << 62, highest - 1, highest,
}

// P1: all numbers in all places, with none, few and all packets in flight.
func TestP1Any(t *testing.T) {
	for _, many := range []int{0, 1, 5, 399, most} {
		for _, i := range edges {
			p, m := filled(t, many)
			for _, from := range edges {
				for _, mask := range []uint32{0, 1, 1 << 31, full} {
					m = wantStep(t, p, m, act{what: 'x', i: i, from: from, mask: mask})
				}
			}
			for range 3 {
				m = wantStep(t, p, m, act{what: 'l', i: i})
				m = wantStep(t, p, m, act{what: 'c', i: i})
				m = wantStep(t, p, m, act{what: 's', i: i, bytes: text(7, 1)})
				m = wantStep(t, p, m, act{what: 't', i: i})
			}
			wantPost(t, p, m)
		}
	}
}

// P1: packets of all lengths from no bytes on, spoilt from anywhere.
func TestP1Lengths(t *testing.T) {
	for size := range 40 {
		for _, from := range edges {
			for _, mask := range []uint32{0, 1, 1 << 31, full, 0x12345678} {
				var p post.Post
				m := wantStep(t, &p, nil, act{what: 's', bytes: text(size, 1)})
				m = wantStep(t, &p, m, act{what: 'x', from: from, mask: mask})
				wantPost(t, &p, m)
			}
		}
	}
}

// R1: numbers have 64 bits: none is cut.
func TestR1(t *testing.T) {
	if math.MaxInt != math.MaxInt64 {
		t.Error("int has not 64 bits")
	}
	p, m := filled(t, 3)
	for _, high := range []int{1 << 8, 1 << 16, 1 << 32, 1 << 33, 1 << 62, -1 << 8, -1 << 16, -1 << 32, -1 << 63} {
		for low := range 3 {
			wantNone(t, p, high+low)
			p.Send(high+low, nil)
			m, _ = m.with(packet{high + low, "", false})
			b := text(9, low)
			wantSpoilt(t, b, high+low, 0x80000001, []byte(turned(string(b), high+low, 0x80000001)))
		}
		p.Take(p.Len() - 1)
		m = m[:len(m)-1]
	}
	wantPost(t, p, m)
}

// R3: beside false there is a zero packet, though there are others.
func TestR3(t *testing.T) {
	p, _ := filled(t, most)
	p.Spoil(0, 0, 1)
	p.Spoil(most-1, 0, 1)
	for _, i := range []int{-1, most, -most, lowest, highest} {
		if f, ok := p.Look(i); ok || !zero(f) || f.Bytes != nil {
			t.Errorf("Look(%d): %v, %t", i, f, ok)
		}
		if f, ok := p.Take(i); ok || !zero(f) || f.Bytes != nil {
			t.Errorf("Take(%d): %v, %t", i, f, ok)
		}
	}
}

// R4: what returns false changes nothing: no packet, nor their order, nor
// whether one is spoilt.
func TestR4(t *testing.T) {
	for _, many := range []int{0, 1, 9, most} {
		p, m := filled(t, many)
		if many > 1 {
			p.Spoil(1, 9, full)
			m, _ = m.spoil(1, 9, full)
		}
		for _, i := range []int{-1, many, lowest, highest} {
			p.Look(i)
			p.Take(i)
			p.Copy(i)
			p.Spoil(i, 0, full)
			wantPost(t, p, m)
		}
		for i := range many {
			if p.Spoil(i, 9, 0) || many > 1 && p.Spoil(1, i, full) {
				t.Errorf("Spoil(%d) of %d", i, many)
			}
			if many == most && (p.Send(i, text(i, 1)) || p.Copy(i)) {
				t.Errorf("%d more than 400", i)
			}
		}
		wantPost(t, p, m)
	}
}

// R5: no bytes may be nil or empty.
func TestR5(t *testing.T) {
	var p post.Post
	if !p.Send(3, nil) || !p.Send(3, []byte{}) || !p.Copy(0) || !p.Copy(1) {
		t.Fatal("Send or Copy")
	}
	m := slices.Repeat(model{{to: 3}}, 4)
	wantPost(t, &p, m)
	for i := range 4 {
		if p.Spoil(i, 0, 1) {
			t.Errorf("Spoil(%d)", i)
		}
	}
	for range 4 {
		if f, ok := p.Take(0); !ok || !m[0].is(f) {
			t.Errorf("Take: %v, %t", f, ok)
		}
	}
	wantPost(t, &p, nil)
}

// roomy returns b with spare capacity that has something in it.
func roomy(b []byte) []byte {
	return append(slices.Clone(b), "MNOP"...)[:len(b)]
}

// wantClean checks that nothing of b, nor behind it, was changed since roomy.
func wantClean(t *testing.T, b, was []byte) {
	t.Helper()
	if string(b[:len(b)+4]) != string(was)+"MNOP" {
		t.Errorf("% x became % x", was, b[:len(b)+4])
	}
}

// wipe overwrites bytes, also behind their end.
func wipe(b []byte) {
	clear(b[:cap(b)])
}

// R6: what is sent is neither changed nor kept: not when it is sent, nor when
// the packet is spoilt, copied and taken, nor when it is changed itself.
func TestR6Send(t *testing.T) {
	for size := range 70 {
		var p post.Post
		was := text(size, size)
		b := roomy(was)
		p.Send(3, b)
		p.Copy(0)
		p.Spoil(0, size, full)
		m := model{{3, string(was), false}, {3, string(was), false}}
		m, _ = m.spoil(0, size, full)
		wantPost(t, &p, m)
		wantClean(t, b, was)
		wipe(b)
		wantPost(t, &p, m)
		p.Take(0)
		wantPost(t, &p, m[1:])
	}
}

// R6: one argument that is changed and sent again is two packets.
func TestR6SendShared(t *testing.T) {
	var p post.Post
	var m model
	shared := make([]byte, 9)
	for n := range most {
		copy(shared, text(9, n))
		p.Send(n, shared)
		m, _ = m.with(packet{n, string(text(9, n)), false})
	}
	clear(shared)
	wantPost(t, &p, m)
	p.Take(0)
	whole := text(40, 1)
	p.Send(1, whole[8:16])
	p.Spoil(most-1, 0, full)
	if !bytes.Equal(whole, text(40, 1)) {
		t.Errorf("% x", whole)
	}
}

// R6: what Look returned is changed, also behind its end: what is in flight is
// not; nor does what it returned before change with a packet that is spoilt,
// copied and taken.
func TestR6Look(t *testing.T) {
	p, m := filled(t, 9)
	for i := range m {
		first, _ := p.Look(i)
		again, _ := p.Look(i)
		wipe(again.Bytes)
		again.Bytes = append(again.Bytes, "more"...)
		wantPost(t, p, m)
		was := m[i]
		p.Spoil(i, i, full)
		m, _ = m.spoil(i, i, full)
		p.Copy(i)
		m, _ = m.with(m[i])
		if !was.is(first) {
			t.Errorf("packet %d: %v became %v", i, was, first)
		}
		again, _ = p.Look(i)
		wipe(again.Bytes)
		wantPost(t, p, m)
		p.Take(i)
		p.Send(i, text(12, 99))
		m, _ = m.without(i).with(packet{i, string(text(12, 99)), false})
		if !was.is(first) {
			t.Errorf("packet %d: %v became %v", i, was, first)
		}
		wantPost(t, p, m)
	}
}

// R6: what Take returned is changed: copies of it, and what is sent later, are
// not; nor does it change with those.
func TestR6Take(t *testing.T) {
	for _, spoilt := range []bool{false, true} {
		p, m := filled(t, 9)
		for i := range 9 {
			if spoilt {
				p.Spoil(i, 5, full)
				m, _ = m.spoil(i, 5, full)
			}
			p.Copy(i)
			m, _ = m.with(m[i])
			want := m[i]
			f, _ := p.Take(i)
			m = m.without(i)
			p.Spoil(len(m)-1, 3, 1)
			m, _ = m.spoil(len(m)-1, 3, 1)
			p.Send(i, text(5, 3))
			m, _ = m.with(packet{i, string(text(5, 3)), false})
			if !want.is(f) {
				t.Errorf("packet %d: %v became %v", i, want, f)
			}
			wipe(f.Bytes)
			wantPost(t, p, m)
		}
	}
}

// R7: a nil Post has nothing and does nothing.
func TestR7(t *testing.T) {
	var p *post.Post
	for range 2 {
		if p.Send(0, nil) || p.Send(3, []byte("nobody takes this")) {
			t.Error("Send")
		}
		for _, i := range edges {
			wantNone(t, p, i)
			if p.Spoil(i, i, 0) || p.Spoil(i, i, 1) {
				t.Errorf("Spoil(%d)", i)
			}
		}
		wantPost(t, p, nil)
	}
}

// R8: nothing but the acts on the same post matters, not those on others.
func TestR8(t *testing.T) {
	r := rand.New(rand.NewSource(8))
	posts, models := make([]post.Post, 6), make([]model, 6)
	for n := range 20000 {
		i := r.Intn(6)
		models[i] = wantStep(t, &posts[i], models[i], randomAct(r, len(models[i]), "sslccttxx"))
		if n%1000 == 0 {
			for i := range posts {
				wantPost(t, &posts[i], models[i])
			}
		}
	}
}

// R8: posts that are used at the same time, each by one.
func TestR8Beside(t *testing.T) {
	done := make(chan bool)
	for range 4 {
		go func() {
			defer func() { done <- true }()
			r := rand.New(rand.NewSource(9))
			var p post.Post
			var m model
			for range 5000 {
				a := randomAct(r, len(m), "ssscclttxx")
				f, ok := do(&p, a)
				after, want, there := m.do(a)
				if m = after; ok != there || !want.is(f) || p.Len() != len(m) {
					t.Errorf("%c %v: %v, %t, want %v, %t", a.what, a, f, ok, want, there)
				}
			}
		}()
	}
	for range 4 {
		<-done
	}
}
