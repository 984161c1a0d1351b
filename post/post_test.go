package post_test

import (
	"bytes"
	"math"
	"math/rand"
	"slices"
	"testing"

	"prompter/post"
)

// P19.1: the zero Post has no packets.
func TestP19_1Empty(t *testing.T) {
	var p post.Post
	for _, i := range []int{0, 1, 2, most - 1, most, -1, -2, lowest, lowest + 1, highest, 1 << 32, -1 << 32} {
		wantNone(t, &p, i)
		wantNone(t, new(post.Post), i)
	}
	wantPost(t, &p, nil)
}

// P19.1: packets to any number, with any number of bytes, are in flight as they
// were sent, and in this order.
func TestP19_1Send(t *testing.T) {
	var p post.Post
	var m model
	for n, to := range []int{0, 1, 15, 16, -1, -16, 1 << 32, lowest, highest, 0, 0} {
		for size := range 20 {
			for _, b := range [][]byte{text(size, n), make([]byte, size)} {
				if len(m) == most {
					break
				}
				if !p.Send(to, b) {
					t.Fatalf("Send to %d of % x", to, b)
				}
				m, _ = m.with(packet{to, string(b), false})
				if p.Len() != len(m) {
					t.Fatalf("Len %d, want %d", p.Len(), len(m))
				}
			}
		}
	}
	wantPost(t, &p, m)
}

// P19.1: packets with many bytes, and with all bytes.
func TestP19_1SendLong(t *testing.T) {
	var p post.Post
	var m model
	for _, size := range []int{64, 65, 255, 256, 257, 4000, 4001, 65535, 65536, 65537, 1 << 20} {
		b := make([]byte, size)
		for i := range b {
			b[i] = byte(i)
		}
		if !p.Send(3, b) {
			t.Errorf("Send of %d bytes", size)
		}
		m, _ = m.with(packet{3, string(b), false})
	}
	wantPost(t, &p, m)
}

// P19.1: the same packet may be in flight many times; each is one of its own.
func TestP19_1SendAgain(t *testing.T) {
	var p post.Post
	var m model
	for range 5 {
		p.Send(3, []byte("same"))
		m, _ = m.with(packet{3, "same", false})
	}
	wantPost(t, &p, m)
	p.Take(2)
	p.Spoil(2, 0, 1)
	m = m.without(2)
	m, _ = m.spoil(2, 0, 1)
	wantPost(t, &p, m)
}

// P19.1: 400 packets are in flight, and not one more, until one was taken.
func TestP19_1Full(t *testing.T) {
	p, m := filled(t, most-1)
	wantPost(t, p, m)
	if !p.Send(-1, []byte("the last one")) {
		t.Fatal("Send of packet 400")
	}
	m, _ = m.with(packet{-1, "the last one", false})
	wantPost(t, p, m)
	for range 3 {
		if p.Send(0, nil) || p.Send(0, []byte("one more")) {
			t.Fatal("Send of packet 401")
		}
		wantPost(t, p, m)
	}
	for _, i := range []int{most - 1, 0, 200} {
		p.Take(i)
		m = m.without(i)
		wantPost(t, p, m)
		if !p.Send(i, []byte("in its place")) || p.Send(i, []byte("one more")) {
			t.Fatal("Send after Take")
		}
		m, _ = m.with(packet{i, "in its place", false})
		wantPost(t, p, m)
	}
}

// P19.1: a full post is emptied, from the front and from the end by turns, and
// filled once more.
func TestP19_1FullAgain(t *testing.T) {
	var p post.Post
	for round := range 20 {
		for n := range most {
			if !p.Send(n, text(round, n)) {
				t.Fatalf("round %d: Send of packet %d", round, n)
			}
		}
		if p.Send(0, nil) {
			t.Fatalf("round %d: Send of packet 401", round)
		}
		for n := range most {
			i, to := 0, n
			if round%2 == 1 {
				i, to = most-1-n, most-1-n
			}
			if f, ok := p.Take(i); !ok || !(packet{to, string(text(round, to)), false}).is(f) {
				t.Fatalf("round %d: Take(%d): %v, %t", round, i, f, ok)
			}
		}
		wantPost(t, &p, nil)
	}
}

// P19.1: Look finds each packet, again and again, and takes none away.
func TestP19_1Look(t *testing.T) {
	for _, many := range []int{1, 2, 3, 10, most} {
		p, m := filled(t, many)
		p.Spoil(many/2, 5, full)
		m, _ = m.spoil(many/2, 5, full)
		for range 3 {
			wantPost(t, p, m)
		}
	}
}

// P19.1: Take of each of up to twenty packets: those behind it move up.
func TestP19_1Take(t *testing.T) {
	for many := 1; many <= 20; many++ {
		for i := range many {
			p, m := filled(t, many)
			if f, ok := p.Take(i); !ok || !m[i].is(f) {
				t.Errorf("Take(%d) of %d: %v, %t, want %v", i, many, f, ok, m[i])
			}
			wantPost(t, p, m.without(i))
		}
	}
}

// permutations returns all orders of the numbers below n.
func permutations(n int) [][]int {
	if n == 0 {
		return [][]int{nil}
	}
	var all [][]int
	for _, l := range permutations(n - 1) {
		for at := range n {
			all = append(all, slices.Insert(slices.Clone(l), at, n-1))
		}
	}
	return all
}

// P19.1: up to seven packets are taken in all orders.
func TestP19_1TakeOrders(t *testing.T) {
	for many := range 8 {
		for _, order := range permutations(many) {
			p, m := filled(t, many)
			for _, to := range order {
				i := slices.IndexFunc(m, func(x packet) bool { return x.to == to })
				f, ok := p.Take(i)
				if !ok || !m[i].is(f) {
					t.Fatalf("Take(%d): %v, %t, want %v", i, f, ok, m[i])
				}
				m = m.without(i)
				wantPost(t, p, m)
			}
		}
	}
}

// P19.1: of 400 packets all are taken: from the front, from the end, from the
// middle, and from anywhere.
func TestP19_1TakeAll(t *testing.T) {
	r := rand.New(rand.NewSource(19))
	for _, which := range []func(many int) int{
		func(int) int { return 0 }, func(many int) int { return many - 1 }, func(many int) int { return many / 2 }, r.Intn,
	} {
		p, m := filled(t, most)
		for len(m) > 0 {
			i := which(len(m))
			f, ok := p.Take(i)
			if !ok || !m[i].is(f) {
				t.Fatalf("Take(%d) of %d: %v, %t, want %v", i, len(m), f, ok, m[i])
			}
			m = m.without(i)
			if len(m)%50 == 0 {
				wantPost(t, p, m)
			}
		}
	}
}

// P19.1: a taken packet is as it was in flight, spoilt or not.
func TestP19_1TakeSpoilt(t *testing.T) {
	p, m := filled(t, 3)
	p.Spoil(1, 3, 0x80000001)
	m, _ = m.spoil(1, 3, 0x80000001)
	p.Copy(1)
	for _, want := range []packet{m[1], m[2], m[1]} {
		if f, ok := p.Take(1); !ok || !want.is(f) {
			t.Errorf("Take: %v, %t, want %v", f, ok, want)
		}
	}
	wantPost(t, p, m[:1])
}

// P19.1: a copy of each of up to twenty packets is at the end.
func TestP19_1Copy(t *testing.T) {
	for many := 1; many <= 20; many++ {
		for i := range many {
			p, m := filled(t, many)
			if !p.Copy(i) {
				t.Errorf("Copy(%d) of %d", i, many)
			}
			m, _ = m.with(m[i])
			wantPost(t, p, m)
			if !p.Copy(many) {
				t.Errorf("Copy of a copy of %d", i)
			}
			m, _ = m.with(m[i])
			wantPost(t, p, m)
		}
	}
}

// P19.1: packets without bytes, and with few of them, are copied, too.
func TestP19_1CopyFew(t *testing.T) {
	var p post.Post
	var m model
	for size := range 8 {
		b := bytes.Repeat([]byte{255}, size)
		p.Send(-size, b)
		m, _ = m.with(packet{-size, string(b), false})
	}
	for i := range 8 {
		if !p.Copy(i) {
			t.Errorf("Copy(%d)", i)
		}
		m, _ = m.with(m[i])
		wantPost(t, &p, m)
	}
}

// P19.1: a copy is a packet of its own: what becomes of the one changes nothing
// of the other.
func TestP19_1CopyApart(t *testing.T) {
	for _, i := range []int{0, 1} {
		p, m := filled(t, 1)
		p.Copy(0)
		m, _ = m.with(m[0])
		if !p.Spoil(i, 7, 0xf00ff00f) {
			t.Errorf("Spoil(%d)", i)
		}
		m, _ = m.spoil(i, 7, 0xf00ff00f)
		wantPost(t, p, m)
		if !p.Spoil(1-i, 3, 1) {
			t.Errorf("Spoil(%d)", 1-i)
		}
		m, _ = m.spoil(1-i, 3, 1)
		wantPost(t, p, m)
		p.Take(i)
		wantPost(t, p, m.without(i))
	}
}

// P19.1: a copy of a spoilt packet is spoilt: it has its bytes, and is not
// spoilt again; nor is a copy of that copy.
func TestP19_1CopySpoilt(t *testing.T) {
	p, m := filled(t, 3)
	p.Spoil(1, 3, 0xdeadbeef)
	m, _ = m.spoil(1, 3, 0xdeadbeef)
	for _, i := range []int{1, 3, 4, 1} {
		if !p.Copy(i) {
			t.Errorf("Copy(%d)", i)
		}
		m, _ = m.with(m[1])
		wantPost(t, p, m)
		for j := range m {
			if m[j].spoilt && p.Spoil(j, 0, 1) {
				t.Errorf("Spoil(%d) of a copy that is spoilt", j)
			}
		}
		wantPost(t, p, m)
	}
	p.Take(1)
	if m = m.without(1); p.Spoil(2, 3, 0xdeadbeef) {
		t.Error("a copy that is spoilt was spoilt after the first was taken")
	}
	wantPost(t, p, m)
}

// P19.1: the 400th packet may be a copy, the 401st not, until one was taken.
func TestP19_1CopyFull(t *testing.T) {
	for _, i := range []int{0, 1, 200, most - 2} {
		p, m := filled(t, most-1)
		p.Spoil(1, 0, full)
		m, _ = m.spoil(1, 0, full)
		if !p.Copy(i) {
			t.Fatalf("Copy(%d) of 399", i)
		}
		m, _ = m.with(m[i])
		wantPost(t, p, m)
		if p.Copy(i) || p.Copy(most-1) || p.Copy(most) || p.Send(0, nil) {
			t.Fatalf("Copy(%d) of 400", i)
		}
		wantPost(t, p, m)
		p.Take(most - 1)
		m = m.without(most - 1)
		if !p.Copy(i) || p.Copy(i) {
			t.Fatalf("Copy(%d) after Take", i)
		}
		m, _ = m.with(m[i])
		wantPost(t, p, m)
	}
}

// P19.1: copies alone fill a post.
func TestP19_1Copies(t *testing.T) {
	p, m := filled(t, 1)
	for n := 1; n < most; n++ {
		if !p.Copy(n / 2) {
			t.Fatalf("Copy with %d in flight", n)
		}
		m, _ = m.with(m[0])
	}
	if p.Copy(0) {
		t.Fatal("Copy with 400 in flight")
	}
	wantPost(t, p, m)
}

// P19.1: an index below 0, or not below the number of packets, is none's.
func TestP19_1NoIndex(t *testing.T) {
	for _, many := range []int{1, 2, 5, 399, most} {
		p, m := filled(t, many)
		for _, i := range []int{
			-1, -2, -many, -many - 1, many, many + 1, 2 * many, 255 + many, 256 + many, most + 1, 1 << 16, 1 << 32, 1<<32 + 1, -1 << 32,
			math.MaxInt32, math.MinInt32, 1 << 62, lowest, lowest + 1, highest, highest - 1,
		} {
			wantNone(t, p, i)
		}
		wantPost(t, p, m)
	}
}
