package cache_test

import (
	"bytes"
	"math"
	"math/rand"
	"slices"
	"testing"

	"prompter/cache"
	"prompter/call"
)

// P1: caches of any size, also the zero one, which New did not make, and calls
// that were never Put.
func TestP1Any(t *testing.T) {
	for _, most := range []int{math.MinInt, -1 << 32, -1, 0, 1, 2, 256, 257, 1 << 32, math.MaxInt} {
		wantQuiet(t, cache.New(most))
	}
	wantQuiet(t, new(cache.Cache))
	wantQuiet(t, nil)
}

// wantQuiet calls all functions of a cache in an order, with any answers.
func wantQuiet(t *testing.T, c *cache.Cache) {
	t.Helper()
	wantNever(t, c, id(65535, 65535))
	wantNumbers(t, c, 0, 0)
	for n := range 300 {
		a := call.Answer{Err: math.MinInt, Raised: math.MaxInt, Bytes: make([]byte, n*n)}
		x := id(uint16(n), uint16(n))
		if c.Put(x, a) != (c != nil) || c.Put(x, a) || c.Seen(x) != (c != nil) {
			t.Errorf("Put of %v", x)
		}
		if got, ok := c.Get(x); ok != (c != nil) || ok && !same(got, a) {
			t.Errorf("Get of %v: %t", x, ok)
		}
		wantNever(t, c, id(uint16(n), 65535))
	}
	if kept, many := c.Kept(), c.Many(); c != nil && (kept < 1 || kept > 256 || many != 300) {
		t.Errorf("%d are kept of %d", kept, many)
	}
}

// P1: the zero cache, of which the document does not speak, is as New(0).
func TestP1Zero(t *testing.T) {
	var c cache.Cache
	wantNumbers(t, &c, 0, 0)
	wantNever(t, &c, id(0, 0))
	for n := range 10 {
		put(t, &c, id(9, uint16(n)), answer(n))
		wantNumbers(t, &c, 1, n+1)
		wantLast(t, &c, 1, n+1)
	}
}

// R1: a size has 64 bits.
func TestR1(t *testing.T) {
	for most, kept := range map[int]int{1 << 32: 256, 1<<32 + 1: 256, 1<<32 - 1: 256, -1 << 32: 1, -1<<32 + 9: 1, 1<<62 + 2: 256, -1<<62 + 2: 1} {
		c := cache.New(most)
		for n := range 300 {
			put(t, c, id(0, uint16(n)), answer(n))
		}
		wantNumbers(t, c, kept, 300)
	}
}

// R3: with false, Get returns nothing: of a call never Put, of one whose
// answer was removed, and of a zero one.
func TestR3(t *testing.T) {
	c := cache.New(2)
	wantNoAnswer(t, c, id(0, 0))
	for n := range 10 {
		put(t, c, id(0, uint16(n)), answer(n))
		for m := range 20 {
			if m < n-1 || m > n {
				wantNoAnswer(t, c, id(0, uint16(m)))
			}
		}
	}
}

// R4: a Put that returns false, and a Get, a Seen, a Kept or a Many, have
// changed nothing.
func TestR4(t *testing.T) {
	c := cache.New(3)
	for n := range 5 {
		put(t, c, id(9, uint16(n)), answer(n))
	}
	for n := range 5 {
		if c.Put(id(9, uint16(n)), answer(50)) {
			t.Errorf("%d is Put twice", n)
		}
		c.Get(id(9, uint16(n)))
		c.Seen(id(9, uint16(n+5)))
		c.Get(id(9, uint16(n+5)))
		wantNumbers(t, c, 3, 5)
		wantLast(t, c, 3, 5)
	}
}

// R5: an answer without bytes is stored as one, whether they are nil or empty.
func TestR5(t *testing.T) {
	c := cache.New(2)
	put(t, c, id(0, 0), call.Answer{Raised: 1})
	put(t, c, id(0, 1), call.Answer{Raised: 1, Bytes: []byte{}})
	a, ok := c.Get(id(0, 0))
	b, there := c.Get(id(0, 1))
	if !ok || !there || len(a.Bytes) != 0 || len(b.Bytes) != 0 || !call.Alike(a, b) {
		t.Errorf("%v, %t, %v, %t", a, ok, b, there)
	}
}

// R6: arguments are not changed, also behind their ends, and not kept.
func TestR6Put(t *testing.T) {
	c := cache.New(3)
	for size := range 100 {
		a := call.Answer{Err: 1, Raised: 2, Bytes: bytes.Repeat([]byte{5}, size)}
		wanted := call.Answer{Err: 1, Raised: 2, Bytes: bytes.Repeat([]byte{5}, size)}
		a.Bytes = append(a.Bytes, 77, 78, 79)[:size]
		x := id(0, uint16(size))
		for range 2 { // the second Put returns false
			c.Put(x, a)
			if string(a.Bytes[:size+3]) != string(wanted.Bytes)+"MNO" {
				t.Fatalf("%d bytes are changed: %v", size, a.Bytes[:size+3])
			}
		}
		clear(a.Bytes[:size+3])
		wantStored(t, c, x, wanted)
		clear(append(a.Bytes, 1, 2, 3))
		wantStored(t, c, x, wanted)
	}
}

// R6: one argument that is put twice has two answers.
func TestR6Twice(t *testing.T) {
	c := cache.New(2)
	shared := []byte("abc")
	put(t, c, id(0, 0), call.Answer{Bytes: shared})
	shared[0] = 'x'
	put(t, c, id(0, 1), call.Answer{Bytes: shared[:2]})
	shared[1] = 'y'
	wantStored(t, c, id(0, 0), call.Answer{Bytes: []byte("abc")})
	wantStored(t, c, id(0, 1), call.Answer{Bytes: []byte("xb")})
}

// R6: what Get returns is apart from what is stored, and from what another Get
// returns, also behind its end.
func TestR6Get(t *testing.T) {
	c := cache.New(3)
	for size := range 100 {
		wanted := call.Answer{Bytes: bytes.Repeat([]byte{5}, size)}
		x := id(0, uint16(size))
		put(t, c, x, wanted)
		first, _ := c.Get(x)
		second, _ := c.Get(x)
		clear(first.Bytes)
		clear(first.Bytes[:cap(first.Bytes)])
		clear(append(first.Bytes, make([]byte, 10)...))
		if !same(second, wanted) {
			t.Fatalf("%d bytes are shared by two results", size)
		}
		wantStored(t, c, x, wanted)
		wantLater(t, c, second)
	}
}

// wantLater checks that an answer that was returned stays as it is when its
// own is removed and others are Put.
func wantLater(t *testing.T, c *cache.Cache, a call.Answer) {
	t.Helper()
	before := slices.Clone(a.Bytes)
	for range 5 {
		many := c.Many()
		put(t, c, id(uint16(1+many/65536), uint16(many)), call.Answer{Bytes: bytes.Repeat([]byte{9}, len(before))})
	}
	if !bytes.Equal(a.Bytes, before) {
		t.Fatalf("%v became %v", before, a.Bytes)
	}
}

// R7: a nil cache has nothing and does nothing.
func TestR7(t *testing.T) {
	var c *cache.Cache
	for range 2 {
		if c.Put(id(1, 2), answer(3)) || c.Put(id(0, 0), call.Answer{}) {
			t.Error("Put: true")
		}
		wantNever(t, c, id(1, 2))
		wantNever(t, c, id(0, 0))
		wantNumbers(t, c, 0, 0)
	}
}

// R8: nothing but the calls of the same cache matters: not those of others,
// between or beside them.
func TestR8(t *testing.T) {
	r := rand.New(rand.NewSource(8))
	caches := make([]*cache.Cache, 10)
	models := make([]*model, 10)
	for i := range caches {
		caches[i], models[i] = cache.New(i+1), &model{most: i + 1}
	}
	calls := make([]call.Id, 40)
	for i := range calls {
		calls[i] = id(uint16(i%3), uint16(i))
	}
	for range 1000 {
		i, x, a := r.Intn(10), calls[r.Intn(40)], answer(r.Intn(1<<20))
		if caches[i].Put(x, a) != models[i].put(x, a) {
			t.Fatalf("Put of %v in cache %d", x, i)
		}
	}
	for i, c := range caches {
		wantAll(t, c, models[i], calls)
	}
}

// R8: the same calls in caches that are used at the same time, each by one.
func TestR8Beside(t *testing.T) {
	done := make(chan bool)
	for range 4 {
		go func() {
			defer func() { done <- true }()
			c := cache.New(20)
			for n := range 1000 {
				put(t, c, id(9, uint16(n)), answer(n))
			}
			wantLast(t, c, 20, 1000)
		}()
	}
	for range 4 {
		<-done
	}
}
