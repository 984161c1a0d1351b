package troupe_test

import (
	"math/bits"
	"math/rand"
	"slices"
	"testing"

	"prompter/api"
	"prompter/troupe"
)

// A mask stands for members, one bit for each: what the functions return is
// calculated a second time with masks.

// list returns the members of a mask.
func list(mask int) []int {
	var l []int
	for n := range 16 {
		if mask>>n&1 == 1 {
			l = append(l, n)
		}
	}
	return l
}

// more reports whether more than half of a mask's members are in another one.
func more(mask, l int) bool {
	return 2*bits.OnesCount(uint(mask&l)) > bits.OnesCount(uint(mask))
}

// P14.1: all lists of members are valid but the empty one, and all views have
// just their members, With and Without any node.
func TestP14_1AllMasks(t *testing.T) {
	for mask := range 1 << 16 {
		l := list(mask)
		v := of(mask, l...)
		if e := troupe.Members(l); (e == api.OK) != (mask > 0) || v.Check() != e {
			t.Fatalf("Members(%v): error %d", l, e)
		}
		if v.Has(-1) || v.Has(16) {
			t.Fatalf("%v has -1 or 16", v)
		}
		for n := range 16 {
			if v.Has(n) != (mask>>n&1 == 1) {
				t.Fatalf("Has(%d) of %v", n, v)
			}
		}
		n := mask % 17 % 16 // each node with masks of all sorts
		if with := v.With(n); !slices.Equal(with, list(mask|1<<n)) {
			t.Fatalf("With(%d) of %v: %v", n, v, with)
		}
		if without := v.Without(n); !slices.Equal(without, list(mask&^(1<<n))) {
			t.Fatalf("Without(%d) of %v: %v", n, v, without)
		}
	}
}

// wantMasks compares a view's functions of a list with the masks, and the list
// in another order and with nodes twice.
func wantMasks(t *testing.T, mask, other int, r *rand.Rand) {
	t.Helper()
	v, l := of(mask&7, list(mask)...), list(other)
	mixed := slices.Concat(l, l[len(l)/2:])
	r.Shuffle(len(mixed), func(i, j int) { mixed[i], mixed[j] = mixed[j], mixed[i] })
	if most := more(mask, other); v.Most(l) != most || v.Most(mixed) != most {
		t.Errorf("Most(%v) or Most(%v) of %v is not %t", l, mixed, v, most)
	}
	if all := mask&^other == 0; v.All(l) != all || v.All(mixed) != all {
		t.Errorf("All(%v) or All(%v) of %v is not %t", l, mixed, v, all)
	}
	if other > 0 && more(mask, other) {
		wantNext(t, v, l)
	} else {
		wantNoNext(t, v, l)
	}
	if w := of(v.Number, l...); troupe.Same(v, w) != (mask == other) {
		t.Errorf("Same(%v, %v): %t", v, w, mask != other)
	}
}

// P14.1: all pairs of lists of seven nodes.
func TestP14_1AllPairs(t *testing.T) {
	r := rand.New(rand.NewSource(14))
	for mask := range 1 << 7 {
		for other := range 1 << 7 {
			if t.Failed() {
				return
			}
			wantMasks(t, mask, other, r)
			wantMasks(t, mask<<9, other<<9, r)
		}
	}
}

// P14.1: random pairs of lists of all nodes, many of them about half the same.
func TestP14_1RandomPairs(t *testing.T) {
	r := rand.New(rand.NewSource(15))
	for range 100000 {
		if t.Failed() {
			return
		}
		mask, other := r.Intn(1<<16), r.Intn(1<<16)
		if r.Intn(2) == 0 {
			mask, other = mask|r.Intn(1<<16), other|mask&r.Intn(1<<16)
		}
		wantMasks(t, mask, other, r)
	}
}

// listError is a second Members by the chapter: each place is looked at alone.
func listError(l []int) api.Errno {
	if len(l) == 0 || len(l) >= 17 {
		return api.ErrMany
	}
	for i := range l {
		if l[i] < 0 || l[i] > 15 || i > 0 && !(l[i] > l[i-1]) {
			return api.ErrRange
		}
	}
	return api.OK
}

// P14.1: all lists of up to five of some nodes, valid or not, as members and
// as lists that are asked for.
func TestP14_1AllLists(t *testing.T) {
	nodes := []int{-1, 0, 1, 7, 14, 15, 16}
	v := of(0, 0, 7, 15)
	for many, lists := 0, 1; many <= 5; many, lists = many+1, lists*7 {
		for which := range lists {
			l, mask := make([]int, many), 0
			for i := range l {
				l[i] = nodes[which%7]
				which /= 7
				if l[i] >= 0 {
					mask |= 1 << l[i]
				}
			}
			e := listError(l)
			if got := troupe.Members(l); got != e {
				t.Fatalf("Members(%v): error %d, want %d", l, got, e)
			}
			most := more(1<<0|1<<7|1<<15, mask)
			if v.Most(l) != most {
				t.Fatalf("Most(%v): %t", l, !most)
			}
			if _, ok := v.Next(l); ok != (e == api.OK && most) {
				t.Fatalf("Next(%v): %t", l, ok)
			}
		}
	}
}

// P14.1: random lists of up to 20 members, most of them with one mistake.
func TestP14_1RandomLists(t *testing.T) {
	r := rand.New(rand.NewSource(16))
	for range 100000 {
		l := list(r.Intn(1 << 16))
		if r.Intn(10) == 0 {
			l = make([]int, r.Intn(21))
		}
		if len(l) > 0 && r.Intn(3) > 0 {
			l[r.Intn(len(l))] = r.Intn(20) - 2
		}
		if r.Intn(4) == 0 {
			l = append(l, r.Intn(20)-2)
		}
		if got, e := troupe.Members(l), listError(l); got != e {
			t.Fatalf("Members(%v): error %d, want %d", l, got, e)
		}
	}
}

// P4: of each view and each one that may be behind it, more than half of the
// first one's members stay, so that any two of its majorities and of those who
// stay have a node in common; and the Number is the next one.
func TestP4Next(t *testing.T) {
	for mask := range 1 << 6 {
		v := of(4, list(mask)...)
		for other := range 1 << 6 {
			next, ok := v.Next(list(other))
			if !ok {
				continue
			}
			if next.Check() != api.OK || next.Number != 5 || !more(mask, other) {
				t.Fatalf("%v is behind %v", next, v)
			}
			for quorum := range 1 << 6 {
				if v.Most(list(quorum)) && quorum&mask&other == 0 {
					t.Fatalf("of the majority %v of %v nobody is in %v", list(quorum), v, next)
				}
			}
		}
	}
}

// P4: two nodes that start with the same view and are given the same lists
// have the same views, each one valid, with the next Number, and with more than
// half of the members of the one before; lists of which no view came change
// nothing.
func TestP4Chain(t *testing.T) {
	r := rand.New(rand.NewSource(4))
	for range 200 {
		start := list(1 + r.Intn(1<<16-1))
		one, other := of(0, start...), of(0, slices.Clone(start)...)
		for step := range 100 {
			l := change(r, one)
			a, ok := one.Next(l)
			b, there := other.Next(slices.Clone(l))
			if ok != there || !troupe.Same(a, b) {
				t.Fatalf("step %d, %v: %v, %v", step, l, a, b)
			}
			if !ok {
				continue
			}
			if a.Check() != api.OK || a.Number != one.Number+1 || !one.Most(a.Members) {
				t.Fatalf("step %d: %v is behind %v", step, a, one)
			}
			one, other = a, b
		}
	}
}

// change returns a list for the view behind v: mostly one node more or fewer.
func change(r *rand.Rand, v troupe.View) []int {
	switch r.Intn(4) {
	case 0:
		return v.With(r.Intn(18) - 1)
	case 1:
		return v.Without(r.Intn(16))
	case 2:
		return list(r.Intn(1 << 16))
	}
	n := r.Intn(16)
	return of(0, v.Without(n)...).With((n + 1) % 16)
}

// P4: one node more or fewer is a next view, but that half of two members are
// not more than half of them.
func TestP4OneNode(t *testing.T) {
	for mask := 1; mask < 1<<16; mask++ {
		v := of(0, list(mask)...)
		n := mask * 7 % 16
		wantNext(t, v, v.With(n))
		if l := v.Without(n); v.Has(n) && len(v.Members) < 3 {
			wantNoNext(t, v, l)
		} else {
			wantNext(t, v, l)
		}
	}
}
