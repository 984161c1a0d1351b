package troupe_test

import (
	"math"
	"slices"
	"testing"

	"prompter/api"
	"prompter/troupe"
)

// of returns a view.
func of(number int, members ...int) troupe.View {
	return troupe.View{Number: number, Members: members}
}

// odd are nodes that there are not, next to those that there are and far away.
func odd() []int {
	return []int{
		-1, 16, -2, 17, -16, 255, 256, 65536, -65536, 1 << 32, 1<<32 + 1, -1 << 32, 1<<32 - 1, math.MinInt, math.MinInt + 1, math.MaxInt,
	}
}

// first returns the nodes from 0 on, so many of them.
func first(many int) []int {
	l := make([]int, many)
	for i := range l {
		l[i] = i
	}
	return l
}

// wantMembers checks which error Members returns, and Check of a view.
func wantMembers(t *testing.T, l []int, e api.Errno) {
	t.Helper()
	if got := troupe.Members(l); got != e {
		t.Errorf("Members(%v): error %d, want %d", l, got, e)
	}
	for _, number := range []int{0, 1, 7, 65536, 1 << 32, math.MaxInt} {
		if got := of(number, l...).Check(); got != e {
			t.Errorf("Check of view %d, %v: error %d, want %d", number, l, got, e)
		}
	}
	for _, number := range []int{-1, -2, -1 << 32, math.MinInt} {
		if got := of(number, l...).Check(); got != api.ErrRange {
			t.Errorf("Check of view %d, %v: error %d, want ErrRange", number, l, got)
		}
	}
}

// wantList checks a list of nodes.
func wantList(t *testing.T, got, want []int) {
	t.Helper()
	if !slices.Equal(got, want) {
		t.Errorf("%v, want %v", got, want)
	}
}

// wantNext checks that there is a next view.
func wantNext(t *testing.T, v troupe.View, l []int) {
	t.Helper()
	next, ok := v.Next(l)
	if !ok || next.Number != v.Number+1 || !slices.Equal(next.Members, l) {
		t.Errorf("Next(%v) of %v: %v, %t", l, v, next, ok)
	}
}

// wantNoNext checks that there is no next view, and a zero one with the false.
func wantNoNext(t *testing.T, v troupe.View, l []int) {
	t.Helper()
	if next, ok := v.Next(l); ok || next.Number != 0 || next.Members != nil {
		t.Errorf("Next(%v) of %v: %v, %t, want none", l, v, next, ok)
	}
}

// P14.1: the example.
func TestP14_1Example(t *testing.T) {
	v := of(0, 0, 1, 2)
	next, ok := v.Next([]int{1, 2, 5})
	if !ok || next.Number != 1 || !slices.Equal(next.Members, []int{1, 2, 5}) {
		t.Errorf("%v, %t", next, ok)
	}
}

// P14.1: so many members as there may be, and more and fewer.
func TestP14_1Many(t *testing.T) {
	wantMembers(t, nil, api.ErrMany)
	wantMembers(t, []int{}, api.ErrMany)
	for many := 1; many <= 16; many++ {
		wantMembers(t, first(many), api.OK)
	}
	for _, many := range []int{17, 18, 31, 32, 33, 256, 257, 65536, 65537} {
		wantMembers(t, first(many), api.ErrMany)
		wantMembers(t, make([]int, many), api.ErrMany)
	}
}

// P14.1: one member, of any number.
func TestP14_1One(t *testing.T) {
	for n := range 16 {
		wantMembers(t, []int{n}, api.OK)
	}
	for _, n := range odd() {
		wantMembers(t, []int{n}, api.ErrRange)
	}
}

// P14.1: members at each place that are no nodes, or not above the one before.
func TestP14_1Wrong(t *testing.T) {
	for many := 2; many <= 16; many++ {
		for at := range many {
			l := first(many)
			for _, n := range odd() {
				l[at] = n
				wantMembers(t, l, api.ErrRange)
			}
			if at > 0 {
				l[at] = at - 1
				wantMembers(t, l, api.ErrRange)
				l = first(many)
				l[at-1], l[at] = l[at], l[at-1]
				wantMembers(t, l, api.ErrRange)
			}
		}
		l := first(many)
		slices.Reverse(l)
		wantMembers(t, l, api.ErrRange)
	}
}

// P14.1: members 15 and 16 behind others, and the same member twice.
func TestP14_1Edges(t *testing.T) {
	wantMembers(t, []int{0, 15}, api.OK)
	wantMembers(t, []int{0, 16}, api.ErrRange)
	wantMembers(t, []int{-1, 15}, api.ErrRange)
	wantMembers(t, []int{14, 15}, api.OK)
	wantMembers(t, []int{15, 14}, api.ErrRange)
	wantMembers(t, []int{0, 0}, api.ErrRange)
	wantMembers(t, []int{15, 15}, api.ErrRange)
	wantMembers(t, []int{0, 1, 1}, api.ErrRange)
	wantMembers(t, []int{1, 2, 1}, api.ErrRange)
	wantMembers(t, []int{2, 1, 3}, api.ErrRange)
}

// P14.1: exactly half of the members, one more, and all but one.
func TestP14_1Half(t *testing.T) {
	for many := 1; many <= 16; many++ {
		v := of(0, first(many)...)
		for there := range many + 1 {
			for from := range many - there + 1 {
				l := first(many)[from : from+there]
				if most := v.Most(l); most != (2*there > many) {
					t.Errorf("Most: %t for %d of %d", most, there, many)
				}
				if all := v.All(l); all != (there == many) {
					t.Errorf("All: %t for %d of %d", all, there, many)
				}
			}
		}
	}
}

// P14.1: nodes that are no members are not counted, however many.
func TestP14_1Strangers(t *testing.T) {
	strangers := append(odd(), 0, 7, 9, 15)
	v := of(0, 1, 2, 4, 8)
	for n := range 5 {
		l := append(slices.Clone(strangers), v.Members[:n]...)
		for range 2 {
			if v.Most(l) != (n > 2) || v.All(l) != (n > 3) {
				t.Errorf("%v of %v: Most %t, All %t", l, v, v.Most(l), v.All(l))
			}
			slices.Reverse(l)
		}
	}
}

// P14.1: nodes that stand in l twice count once.
func TestP14_1Twice(t *testing.T) {
	v := of(0, 1, 2, 4, 8)
	for _, l := range [][]int{{1, 1}, {1, 1, 1}, {1, 1, 1, 1}, {8, 8, 8, 8, 8}, {1, 2, 1, 2}, {1, 1, 2, 2}, {2, 4, 4, 2, 2, 4}} {
		if v.Most(l) || v.All(l) {
			t.Errorf("%v of %v: Most %t, All %t", l, v, v.Most(l), v.All(l))
		}
	}
	if l := []int{1, 2, 1, 2, 4}; !v.Most(l) || v.All(l) {
		t.Errorf("%v of %v: Most %t, All %t", l, v, v.Most(l), v.All(l))
	}
	if l := []int{8, 4, 2, 2, 1, 8}; !v.Most(l) || !v.All(l) {
		t.Errorf("%v of %v: Most %t, All %t", l, v, v.Most(l), v.All(l))
	}
}

// P14.1: next views, and lists that are none for each of the reasons.
func TestP14_1Next(t *testing.T) {
	v := of(6, 1, 3, 5, 7)
	for _, l := range [][]int{{1, 3, 5}, {3, 5, 7}, {1, 3, 5, 7}, {0, 1, 2, 3, 4, 5, 6}, {1, 3, 7, 15}, first(16)} {
		wantNext(t, v, l)
	}
	for _, l := range [][]int{nil, {}, first(17)} { // ErrMany
		wantNoNext(t, v, l)
	}
	for _, l := range [][]int{{-1, 1, 3, 5, 7}, {1, 3, 5, 7, 16}, {7, 5, 3, 1}, {1, 3, 3, 5, 7}, {1, 3, 7, 5}} { // ErrRange
		wantNoNext(t, v, l)
	}
	for _, l := range [][]int{{1}, {1, 3}, {0, 2, 4, 6}, {1, 2, 3, 4}, {5, 7, 8, 9, 10, 11, 12, 13, 14, 15}} { // not Most
		wantNoNext(t, v, l)
	}
}

// P14.1: after a view with one member, that one has to stay.
func TestP14_1NextOne(t *testing.T) {
	for n := range 16 {
		v := of(0, n)
		for m := range 16 {
			if m == n {
				wantNext(t, v, []int{m})
			} else {
				wantNoNext(t, v, []int{m})
				wantNext(t, v, []int{min(m, n), max(m, n)})
			}
		}
	}
}

// P14.1: the Number of the next view, also after views that Check rejects, and
// after the greatest Number, behind which int wraps around.
func TestP14_1NextNumber(t *testing.T) {
	for _, number := range []int{0, 1, 2, 65535, 1<<31 - 1, 1<<32 - 1, 1<<63 - 2, -1, -2, -1 << 32, math.MinInt} {
		next, ok := of(number, 0, 1, 2).Next([]int{1, 2})
		if !ok || next.Number != number+1 || !slices.Equal(next.Members, []int{1, 2}) {
			t.Errorf("after %d: %v, %t", number, next, ok)
		}
		wantNoNext(t, of(number, 0, 1, 2), []int{2})
	}
	next, ok := of(math.MaxInt, 0, 1, 2).Next([]int{1, 2})
	if !ok || next.Number != math.MinInt || !slices.Equal(next.Members, []int{1, 2}) {
		t.Errorf("after the greatest: %v, %t", next, ok)
	}
}

// P14.1: Without of members and of others.
func TestP14_1Without(t *testing.T) {
	v := of(3, 0, 4, 5, 15)
	wantList(t, v.Without(0), []int{4, 5, 15})
	wantList(t, v.Without(4), []int{0, 5, 15})
	wantList(t, v.Without(5), []int{0, 4, 15})
	wantList(t, v.Without(15), []int{0, 4, 5})
	for _, n := range append(odd(), 1, 2, 3, 6, 7, 8, 14) {
		wantList(t, v.Without(n), v.Members)
	}
	wantList(t, of(0, 9).Without(9), nil)
	wantList(t, of(0, 9).Without(8), []int{9})
	wantList(t, of(0).Without(0), nil)
}

// P14.1: With of members and of others, in front, between and at the end.
func TestP14_1With(t *testing.T) {
	v := of(3, 1, 4, 5, 14)
	for _, n := range v.Members {
		wantList(t, v.With(n), v.Members)
	}
	wantList(t, v.With(0), []int{0, 1, 4, 5, 14})
	wantList(t, v.With(2), []int{1, 2, 4, 5, 14})
	wantList(t, v.With(3), []int{1, 3, 4, 5, 14})
	wantList(t, v.With(6), []int{1, 4, 5, 6, 14})
	wantList(t, v.With(13), []int{1, 4, 5, 13, 14})
	wantList(t, v.With(15), []int{1, 4, 5, 14, 15})
	for n := range 16 {
		wantList(t, of(0).With(n), []int{n})
	}
}

// P14.1: With of nodes that there are not: they come where they belong, and
// Members rejects the result.
func TestP14_1WithOdd(t *testing.T) {
	v := of(3, 0, 4, 15)
	for _, n := range odd() {
		l := v.With(n)
		if n < 0 {
			wantList(t, l, []int{n, 0, 4, 15})
		} else {
			wantList(t, l, []int{0, 4, 15, n})
		}
		wantMembers(t, l, api.ErrRange)
	}
	l := of(0, first(16)...).With(16)
	wantList(t, l, first(17))
	wantMembers(t, l, api.ErrMany)
}

// P14.1: views that differ in the Number or in any of the members.
func TestP14_1Same(t *testing.T) {
	for _, numbers := range [][2]int{{0, 1}, {0, -1}, {5, 1<<32 + 5}, {math.MinInt, math.MaxInt}, {math.MinInt, 0}} {
		for many := range 17 {
			a, b := of(numbers[0], first(many)...), of(numbers[1], first(many)...)
			if troupe.Same(a, b) || troupe.Same(b, a) || !troupe.Same(a, a) || !troupe.Same(b, of(numbers[1], first(many)...)) {
				t.Errorf("Same of %v and %v", a, b)
			}
		}
	}
	for many := 1; many <= 17; many++ {
		for at := range many {
			a, b := of(4, first(many)...), of(4, first(many)...)
			b.Members[at] += 1 << 32
			c := of(4, slices.Delete(first(many), at, at+1)...)
			for _, d := range []troupe.View{b, c} {
				if troupe.Same(a, d) || troupe.Same(d, a) || !troupe.Same(d, d) {
					t.Errorf("Same of %v and %v", a, d)
				}
			}
		}
	}
	if troupe.Same(of(0, 1, 2), of(0, 2, 1)) || troupe.Same(of(0, 1), of(0, 1, 1)) || troupe.Same(of(0), of(0, 0)) {
		t.Error("Same for other orders or numbers of members")
	}
}
