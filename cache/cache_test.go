package cache_test

import (
	"testing"

	"prompter/api"
	"prompter/cache"
	"prompter/call"
)

// id returns the Id of a call.
func id(troupe, number uint16) call.Id {
	return call.Id{Troupe: troupe, Number: number}
}

// answer returns an answer that differs for each n.
func answer(n int) call.Answer {
	return call.Answer{Err: api.Errno(n % 65536), Raised: n / 65536, Bytes: []byte{byte(n), byte(n >> 8), 7}}
}

// same compares each field without help of package call.
func same(a, b call.Answer) bool {
	return a.Err == b.Err && a.Raised == b.Raised && string(a.Bytes) == string(b.Bytes)
}

// put puts an answer of a call that was not Put before.
func put(t *testing.T, c *cache.Cache, id call.Id, a call.Answer) {
	t.Helper()
	if !c.Put(id, a) {
		t.Errorf("Put of %v: false", id)
	}
}

// wantStored checks a call whose answer is stored.
func wantStored(t *testing.T, c *cache.Cache, id call.Id, a call.Answer) {
	t.Helper()
	if got, ok := c.Get(id); !ok || !same(got, a) {
		t.Errorf("Get of %v: %v, %t, want %v", id, got, ok, a)
	}
	if !c.Seen(id) {
		t.Errorf("Seen of %v, whose answer is stored: false", id)
	}
}

// wantRemoved checks a call of which the answer was removed.
func wantRemoved(t *testing.T, c *cache.Cache, id call.Id) {
	t.Helper()
	wantNoAnswer(t, c, id)
	if !c.Seen(id) {
		t.Errorf("Seen of %v, whose answer was removed: false", id)
	}
}

// wantNever checks a call that was never Put.
func wantNever(t *testing.T, c *cache.Cache, id call.Id) {
	t.Helper()
	wantNoAnswer(t, c, id)
	if c.Seen(id) {
		t.Errorf("Seen of %v, which was never Put: true", id)
	}
}

// wantNoAnswer checks that Get returns false, and a zero answer with it.
func wantNoAnswer(t *testing.T, c *cache.Cache, id call.Id) {
	t.Helper()
	if a, ok := c.Get(id); ok || a.Bytes != nil || !same(a, call.Answer{}) {
		t.Errorf("Get of %v: %v, %t, want nothing", id, a, ok)
	}
}

// wantNumbers checks how many answers are stored and how many calls were Put.
func wantNumbers(t *testing.T, c *cache.Cache, kept, many int) {
	t.Helper()
	if c.Kept() != kept || c.Many() != many {
		t.Errorf("%d are kept of %d, want %d of %d", c.Kept(), c.Many(), kept, many)
	}
}

// P13.1: the example.
func TestP13_1Example(t *testing.T) {
	c := cache.New(1)
	wantNumbers(t, c, 0, 0)
	put(t, c, id(1, 2), answer(1))
	wantStored(t, c, id(1, 2), answer(1))
	wantNumbers(t, c, 1, 1)
	put(t, c, id(3, 4), answer(2))
	wantRemoved(t, c, id(1, 2))
	wantStored(t, c, id(3, 4), answer(2))
	wantNumbers(t, c, 1, 2)
}

// P13.1: a new cache has nothing, and each has its own.
func TestP13_1New(t *testing.T) {
	c, other := cache.New(5), cache.New(5)
	if c == nil || c == other {
		t.Fatal("New returns no cache of its own")
	}
	for n := range 20 {
		wantNever(t, c, id(0, uint16(n)))
		put(t, other, id(0, uint16(n)), answer(n))
	}
	wantNumbers(t, c, 0, 0)
	wantNumbers(t, other, 5, 20)
}

// P13.1: caches of every size, filled beyond their number: after each Put, all
// calls are Seen and the last ones have their answers.
func TestP13_1Sizes(t *testing.T) {
	for most := 1; most <= 256; most++ {
		c := cache.New(most)
		for n := range most {
			put(t, c, id(9, uint16(n)), answer(n))
			wantNumbers(t, c, n+1, n+1)
			wantStored(t, c, id(9, 0), answer(0))
			wantNever(t, c, id(9, uint16(n+1)))
		}
		for n := most; n < 3*most+5; n++ {
			wantStored(t, c, id(9, uint16(n-most)), answer(n-most))
			put(t, c, id(9, uint16(n)), answer(n))
			wantNumbers(t, c, most, n+1)
			wantRemoved(t, c, id(9, uint16(n-most)))
			wantStored(t, c, id(9, uint16(n-most+1)), answer(n-most+1))
			wantStored(t, c, id(9, uint16(n)), answer(n))
		}
		wantLast(t, c, most, 3*most+5)
	}
}

// wantLast checks a cache of most answers in which the calls of troupe 9 were
// Put in order, many of them.
func wantLast(t *testing.T, c *cache.Cache, most, many int) {
	t.Helper()
	for n := range many {
		if n < many-most {
			wantRemoved(t, c, id(9, uint16(n)))
		} else {
			wantStored(t, c, id(9, uint16(n)), answer(n))
		}
	}
	wantNever(t, c, id(9, uint16(many)))
}

// P13.1: sizes out of the range from 1 to 256 are limited to it.
func TestP13_1Limits(t *testing.T) {
	for most, limited := range map[int]int{
		-1 << 63: 1, -1<<63 + 5: 1, -1 << 32: 1, -1<<32 + 7: 1, -257: 1, -256: 1, -2: 1, -1: 1, 0: 1, 1: 1, 2: 2, 3: 3, 128: 128,
		254: 254, 255: 255, 256: 256, 257: 256, 258: 256, 300: 256, 512: 256, 1<<16 + 3: 256, 1 << 32: 256, 1<<32 + 3: 256, 1<<63 - 1: 256,
	} {
		c := cache.New(most)
		for n := range 600 {
			put(t, c, id(9, uint16(n)), answer(n))
			wantNumbers(t, c, min(n+1, limited), n+1)
		}
		wantLast(t, c, limited, 600)
	}
}

// P13.1: a call that is Put a second time keeps its first answer and its place
// in the order.
func TestP13_1Twice(t *testing.T) {
	for most := 1; most <= 20; most++ {
		c := cache.New(most)
		for n := range most {
			put(t, c, id(9, uint16(n)), answer(n))
			for m := range n + 1 {
				if c.Put(id(9, uint16(m)), answer(100+m)) {
					t.Errorf("call %d is Put twice", m)
				}
				wantStored(t, c, id(9, uint16(m)), answer(m))
			}
			wantNumbers(t, c, n+1, n+1)
		}
		put(t, c, id(9, uint16(most)), answer(most))
		wantNumbers(t, c, most, most+1)
		wantLast(t, c, most, most+1)
	}
}

// P13.1: a call of which the answer was removed is still Seen, so that it is
// not Put again, and nothing is removed for it.
func TestP13_1Removed(t *testing.T) {
	for most := 1; most <= 20; most++ {
		c := cache.New(most)
		for n := range 3 * most {
			put(t, c, id(9, uint16(n)), answer(n))
		}
		for n := range 2 * most {
			if c.Put(id(9, uint16(n)), answer(n)) {
				t.Errorf("call %d is Put again", n)
			}
			wantRemoved(t, c, id(9, uint16(n)))
			wantNumbers(t, c, most, 3*most)
		}
		wantLast(t, c, most, 3*most)
	}
}

// P13.1: the answer stored first is removed, not the one that was asked for
// longest ago, nor the one of the smallest Id.
func TestP13_1First(t *testing.T) {
	c := cache.New(3)
	ids := []call.Id{id(5, 5), id(1, 9), id(9, 1), id(0, 0), id(65535, 65535), id(3, 3)}
	for i, x := range ids {
		put(t, c, x, answer(i))
		for range 3 {
			c.Get(ids[max(i-2, 0)])
			c.Seen(ids[max(i-2, 0)])
		}
	}
	for i, x := range ids {
		if i < 3 {
			wantRemoved(t, c, x)
		} else {
			wantStored(t, c, x, answer(i))
		}
	}
}

// P13.1: calls are told apart by all bits of their troupes and their numbers.
func TestP13_1Ids(t *testing.T) {
	c := cache.New(256)
	var ids []call.Id
	for bit := range 16 {
		ids = append(ids, id(1<<bit, 0), id(0, 1<<bit), id(1<<bit, 1<<bit), id(^uint16(1<<bit), 65535), id(65535, ^uint16(1<<bit)))
	}
	ids = append(ids, id(0, 0), id(65535, 65535), id(1, 2), id(2, 1), id(258, 772), id(772, 258))
	for i, x := range ids {
		wantNever(t, c, x)
		put(t, c, x, answer(i))
	}
	for i, x := range ids {
		wantStored(t, c, x, answer(i))
	}
	wantNumbers(t, c, len(ids), len(ids))
}

// P13.1: many calls, all numbers of some troupes, are remembered.
func TestP13_1Many(t *testing.T) {
	c := cache.New(256)
	many := 0
	for _, troupe := range []uint16{0, 1, 256, 65535} {
		for n := range 1 << 16 {
			put(t, c, id(troupe, uint16(n)), answer(n))
			many++
		}
		wantNumbers(t, c, 256, many)
	}
	for _, troupe := range []uint16{0, 1, 256, 65535} {
		for n := range 1 << 16 {
			if x := id(troupe, uint16(n)); troupe == 65535 && n >= 1<<16-256 {
				wantStored(t, c, x, answer(n))
			} else if _, ok := c.Get(x); ok || !c.Seen(x) || c.Put(x, answer(n)) {
				t.Fatalf("%v is stored, not Seen, or Put again", x)
			}
		}
	}
	wantNever(t, c, id(2, 0))
	wantNumbers(t, c, 256, many)
}

// P13.1: answers of all sorts come back whole, also those that are not valid.
func TestP13_1Answers(t *testing.T) {
	long := make([]byte, 1<<16)
	for i := range long {
		long[i] = byte(i % 251)
	}
	answers := []call.Answer{
		{}, {Err: api.ErrRaised, Raised: 65535}, {Bytes: []byte{0}}, {Bytes: []byte{0, 255, 0}}, {Bytes: long[:4000]}, {Bytes: long[:4001]}, {Bytes: long},
		{Err: -1, Raised: -1}, {Err: 1 << 40, Raised: 1 << 40, Bytes: long[:1]}, {Err: -1 << 63, Raised: 1<<63 - 1}, {Err: api.ErrArgs, Bytes: []byte("abc")},
	}
	c := cache.New(len(answers))
	for i, a := range answers {
		put(t, c, id(uint16(i), 0), a)
	}
	for i, a := range answers {
		wantStored(t, c, id(uint16(i), 0), a)
	}
	wantNumbers(t, c, len(answers), len(answers))
}
