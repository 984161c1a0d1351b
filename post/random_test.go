package post_test

import (
	"math/rand"
	"testing"

	"prompter/post"
)

// P19.1: all rows of five of twelve acts, from no packets on.
func TestP19_1Rows(t *testing.T) {
	acts := []act{
		{what: 's', i: 7, bytes: []byte("send")}, {what: 's', i: -1, bytes: []byte("few")}, {what: 's', bytes: text(9, 3)},
		{what: 'l', i: 1}, {what: 't', i: 0}, {what: 't', i: 1}, {what: 'c', i: 0}, {what: 'c', i: 1},
		{what: 'x', i: 0, from: 3, mask: 0x80000001}, {what: 'x', i: 1, from: -2, mask: full}, {what: 'x', i: 2, mask: 1}, {what: 'x', i: 0},
	}
	for row := range 12 * 12 * 12 * 12 * 12 {
		var p post.Post
		var m model
		rest := row
		for range 5 {
			m = wantStep(t, &p, m, acts[rest%12])
			rest /= 12
		}
		wantPost(t, &p, m)
	}
}

// P19.1: all rows of four of eight acts, behind 398, 399 and 400 packets.
func TestP19_1RowsFull(t *testing.T) {
	acts := []act{
		{what: 's', i: 7, bytes: []byte("send")}, {what: 't', i: 0}, {what: 't', i: most - 1}, {what: 'c', i: 200}, {what: 'c', i: most - 1},
		{what: 'x', i: 200, from: 3, mask: 0x80000001}, {what: 'x', i: most - 1, from: -2, mask: full}, {what: 'l', i: most - 1},
	}
	for row := range 8 * 8 * 8 * 8 {
		for many := most - 2; many <= most; many++ {
			p, m := filled(t, many)
			rest := row
			for range 4 {
				m = wantStep(t, p, m, acts[rest%8])
				rest /= 8
			}
			wantPost(t, p, m)
		}
	}
}

// some returns one of the numbers.
func some(r *rand.Rand, numbers ...int) int {
	return numbers[r.Intn(len(numbers))]
}

// randomAct returns an act on one of many packets, or, now and then, on none.
func randomAct(r *rand.Rand, many int, kinds string) act {
	a := act{what: kinds[r.Intn(len(kinds))], i: r.Intn(many + 1)}
	if r.Intn(10) == 0 {
		a.i = some(r, -1, 0, many-1, many, many+1, int(r.Uint64()))
	}
	a.from = some(r, 0, 1, -1, r.Intn(600), -r.Intn(600), int(r.Uint64()))
	a.mask = uint32(some(r, 0, 1, 1<<31, full, 1<<r.Intn(32), int(r.Uint32()), int(r.Uint32())))
	if a.what == 's' {
		a.bytes = make([]byte, some(r, 0, 3, 4, 5, 64, r.Intn(70)))
		r.Read(a.bytes)
	}
	return a
}

// P19.1: random acts: with few packets in flight, with some, and with as many
// as there may be.
func TestP19_1Random(t *testing.T) {
	r := rand.New(rand.NewSource(19))
	for _, x := range []struct {
		kinds string
		many  int // acts
	}{{"sltcx", 400}, {"slttttccx", 2000}, {"sstcxxx", 2000}, {"sssscccccltxxx", 2000}, {"sssssttttttcx", 5000}} {
		for range 10 {
			var p post.Post
			var m model
			for n := range x.many {
				m = wantStep(t, &p, m, randomAct(r, len(m), x.kinds))
				if n%50 == 0 {
					wantPost(t, &p, m)
				}
			}
			wantPost(t, &p, m)
		}
	}
}

// P19.1: what was sent, less what was taken, and with what was copied, is in
// flight: each packet comes out as often as it went in.
func TestP19_1Count(t *testing.T) {
	r := rand.New(rand.NewSource(20))
	for range 200 {
		var p post.Post
		in, out := map[int]int{}, map[int]int{}
		for n := range 1000 {
			if r.Intn(3) > 0 && p.Send(n, text(n%70, n)) {
				in[n]++
			}
			i := r.Intn(p.Len() + 1)
			if f, ok := p.Look(i); ok && r.Intn(4) == 0 && p.Copy(i) {
				in[f.To]++
			}
			if f, ok := p.Take(r.Intn(p.Len() + 1)); ok {
				out[f.To]++
			}
		}
		for p.Len() > 0 {
			f, _ := p.Take(r.Intn(p.Len()))
			out[f.To]++
		}
		for n := range 1000 {
			if in[n] != out[n] {
				t.Fatalf("packet %d: %d times in, %d times out", n, in[n], out[n])
			}
		}
	}
}
