package cache_test

import (
	"math/rand"
	"testing"

	"prompter/cache"
	"prompter/call"
)

// model is a second cache by the chapter: all calls that were Put, of which
// the last have their answers, since each call is stored once.
type model struct {
	most    int
	ids     []call.Id
	answers []call.Answer
}

// place returns where the call is in the list, or -1.
func (m *model) place(x call.Id) int {
	for i, y := range m.ids {
		if x == y {
			return i
		}
	}
	return -1
}

// put does what Put does.
func (m *model) put(x call.Id, a call.Answer) bool {
	if m.place(x) >= 0 {
		return false
	}
	m.ids, m.answers = append(m.ids, x), append(m.answers, a)
	return true
}

// wantAll compares the cache with the model, for each of the calls.
func wantAll(t *testing.T, c *cache.Cache, m *model, calls []call.Id) {
	t.Helper()
	wantNumbers(t, c, min(m.most, len(m.ids)), len(m.ids))
	for _, x := range calls {
		switch at := m.place(x); {
		case at < 0:
			wantNever(t, c, x)
		case at < len(m.ids)-m.most:
			wantRemoved(t, c, x)
		default:
			wantStored(t, c, x, m.answers[at])
		}
	}
}

// P13.1: all orders of up to six Puts of five calls, in caches of up to five
// answers.
func TestP13_1Orders(t *testing.T) {
	calls := []call.Id{id(0, 0), id(0, 1), id(1, 0), id(1, 1), id(65535, 0)}
	for most := range 5 {
		for order := range 5 * 5 * 5 * 5 * 5 * 5 {
			c, m := cache.New(most+1), &model{most: most + 1}
			for step := range 6 {
				x := calls[order%5]
				order /= 5
				if c.Put(x, answer(step)) != m.put(x, answer(step)) {
					t.Fatalf("Put of %v after %v in a cache of %d", x, m.ids, m.most)
				}
			}
			wantAll(t, c, m, calls)
		}
	}
}

// P13.1: random calls in caches of random sizes, all of them compared after
// each step.
func TestP13_1Random(t *testing.T) {
	r := rand.New(rand.NewSource(13))
	for range 300 {
		most := 1 + r.Intn(12)
		if r.Intn(20) == 0 {
			most = 250 + r.Intn(7)
		}
		calls := make([]call.Id, 1+r.Intn(3*most))
		for i := range calls {
			calls[i] = id(uint16(r.Intn(1<<r.Intn(17))), uint16(r.Intn(1<<r.Intn(17))))
		}
		c, m := cache.New(most), &model{most: most}
		for range len(calls) + r.Intn(100) {
			x, a := calls[r.Intn(len(calls))], answer(r.Intn(1<<20))
			if got, wanted := c.Put(x, a), m.put(x, a); got != wanted {
				t.Fatalf("Put of %v after %v in a cache of %d: %t", x, m.ids, most, got)
			}
			wantAll(t, c, m, calls)
		}
	}
}
