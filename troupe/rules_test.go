package troupe_test

import (
	"math"
	"math/rand"
	"slices"
	"testing"

	"prompter/api"
	"prompter/troupe"
)

// P1: views and lists of any numbers and lengths, through every function.
func TestP1Any(t *testing.T) {
	r := rand.New(rand.NewSource(1))
	lists := [][]int{nil, {}, {0}, odd(), first(16), first(17), first(5000), make([]int, 5000)}
	for range 20 {
		l := make([]int, r.Intn(40))
		for i := range l {
			l[i] = int(r.Uint64()) >> r.Intn(64)
		}
		lists = append(lists, l)
	}
	for _, number := range []int{math.MinInt, -1, 0, 1, 1 << 32, math.MaxInt} {
		for _, members := range lists {
			for _, l := range lists {
				wantQuiet(t, of(number, members...), l)
			}
		}
	}
}

// wantQuiet calls all functions, and checks what holds of any view and list.
func wantQuiet(t *testing.T, v troupe.View, l []int) {
	t.Helper()
	e := troupe.Members(v.Members)
	if (v.Check() == api.OK) != (e == api.OK && v.Number >= 0) {
		t.Errorf("Check of view %d of %d: error %d", v.Number, len(v.Members), v.Check())
	}
	if !troupe.Same(v, v) || !v.All(v.Members) || v.Most(v.Members) != (len(v.Members) > 0) {
		t.Errorf("view %d of %d members is not its own", v.Number, len(v.Members))
	}
	if next, ok := v.Next(l); ok != (v.Most(l) && troupe.Members(l) == api.OK) || ok && !slices.Equal(next.Members, l) {
		t.Errorf("Next of view %d of %d members: %t", v.Number, len(v.Members), ok)
	}
	for _, n := range append(odd(), 0, 5, 15, 4999) {
		without, with := v.Without(n), v.With(n)
		if slices.Contains(without, n) || !slices.Contains(with, n) || v.Has(n) != (len(with) == len(v.Members)) || v.Has(n) != (len(without) < len(v.Members)) {
			t.Errorf("view %d of %d members, With and Without %d", v.Number, len(v.Members), n)
		}
	}
}

// P1: views that Check rejects: each function does what it says of them, and
// their members keep their order.
func TestP1Invalid(t *testing.T) {
	down := of(-1, 5, 3, 1)
	if !down.Has(3) || down.Has(2) || !down.Most([]int{1, 3}) || down.Most([]int{1}) || !down.All([]int{1, 3, 5}) || down.All([]int{3, 5}) {
		t.Error("descending members")
	}
	wantList(t, down.Without(3), []int{5, 1})
	wantList(t, down.With(3), []int{5, 3, 1})
	wantList(t, down.With(9), []int{5, 3, 1, 9})
	wantNext(t, down, []int{1, 3})
	wantNoNext(t, down, []int{5, 3, 1})
	twice := of(0, 2, 2, 6)
	if !twice.Has(2) || !twice.All([]int{6, 2}) || twice.All([]int{2}) || !twice.Most([]int{2}) || twice.Most([]int{6, 6}) {
		t.Error("a member twice")
	}
	wantList(t, twice.Without(2), []int{6})
	wantList(t, twice.Without(6), []int{2, 2})
	wantList(t, twice.With(2), []int{2, 2, 6})
	wantList(t, twice.With(4), []int{2, 2, 4, 6})
	strange := of(0, -1, 16)
	if !strange.Has(-1) || !strange.Has(16) || strange.Has(15) || strange.Most([]int{16}) || !strange.All([]int{16, -1}) {
		t.Error("members that are no nodes")
	}
	wantNoNext(t, strange, []int{-1, 16})
	wantList(t, strange.With(7), []int{-1, 7, 16})
	large := of(0, first(17)...)
	wantNext(t, large, first(9))
	wantNoNext(t, large, first(8))
}

// P1: of a view with no members nobody is most, and nobody is missing.
func TestP1Nobody(t *testing.T) {
	for _, v := range []troupe.View{{}, of(0), {Number: 3, Members: []int{}}} {
		for _, l := range [][]int{nil, {}, {0}, first(16), odd()} {
			if v.Has(0) || v.Most(l) || !v.All(l) || v.Check() != api.ErrMany {
				t.Errorf("%v, %v", v, l)
			}
			wantNoNext(t, v, l)
		}
	}
}

// R1: Numbers and members have 64 bits.
func TestR1(t *testing.T) {
	if math.MaxInt != math.MaxInt64 {
		t.Error("int has not 64 bits")
	}
	if of(1<<40, 0).Check() != api.OK || of(-1<<40, 0).Check() != api.ErrRange || of(0, 1<<40).Check() != api.ErrRange {
		t.Error("numbers of 41 bits")
	}
	next, ok := of(1<<32-1, 0).Next([]int{0})
	if !ok || next.Number != 1<<32 {
		t.Errorf("after 32 bits: %v, %t", next, ok)
	}
}

// R2: the Number comes before the members, and how many there are before which.
func TestR2(t *testing.T) {
	if e := of(-1).Check(); e != api.ErrRange {
		t.Errorf("a negative Number and no members: error %d", e)
	}
	if e := of(-1, first(17)...).Check(); e != api.ErrRange {
		t.Errorf("a negative Number and 17 members: error %d", e)
	}
	for _, l := range [][]int{make([]int, 17), odd()[:16], append(odd(), -5, 3), append(first(16), 0), append([]int{-1}, first(16)...)} {
		want := api.ErrMany
		if len(l) == 16 {
			want = api.ErrRange
		}
		wantMembers(t, l, want)
	}
}

// R3: beside a false there is no view, also if the members alone are wrong.
func TestR3(t *testing.T) {
	v := of(5, 0, 1, 2)
	for _, l := range [][]int{nil, {0}, {2, 1, 0}, {0, 1, 16}, {-1, 0, 1, 2}, first(17), {3, 4, 5}} {
		wantNoNext(t, v, l)
	}
}

// R5: no members and no list may be nil or empty.
func TestR5(t *testing.T) {
	none, empty := troupe.View{Number: 2}, troupe.View{Number: 2, Members: []int{}}
	if !troupe.Same(none, empty) || !troupe.Same(empty, none) || none.Check() != empty.Check() || troupe.Members(nil) != troupe.Members([]int{}) {
		t.Error("empty is not nil")
	}
	if len(none.Without(1))+len(empty.Without(1)) > 0 || !slices.Equal(none.With(1), empty.With(1)) {
		t.Error("With or Without: empty is not nil")
	}
	v := of(2, 1)
	if v.Most(nil) || v.Most([]int{}) || v.All(nil) || v.All([]int{}) {
		t.Error("a member is in no list")
	}
	wantNoNext(t, v, nil)
	wantNoNext(t, v, []int{})
}

// roomy returns l with spare capacity that has something in it.
func roomy(l []int) []int {
	return append(slices.Clone(l), 77, 78, 79)[:len(l)]
}

// R6: arguments are not changed, also behind their ends.
func TestR6Unchanged(t *testing.T) {
	r := rand.New(rand.NewSource(6))
	for range 3000 {
		members, l := list(r.Intn(1<<16)), list(r.Intn(1<<16))
		v, given := of(1, roomy(members)...), roomy(l)
		wantQuiet(t, v, given)
		v.Most(given)
		v.All(given)
		v.Next(given)
		troupe.Members(given)
		troupe.Same(v, of(1, given...))
		for n := -1; n <= 16; n++ {
			v.Without(n)
			v.With(n)
		}
		if !slices.Equal(v.Members[:len(members)+3], append(members, 77, 78, 79)) || !slices.Equal(given[:len(l)+3], append(l, 77, 78, 79)) {
			t.Fatalf("%v and %v were changed: %v, %v", members, l, v.Members[:len(members)+3], given[:len(l)+3])
		}
	}
}

// R6: results have memory of their own, in front of their ends and behind.
func TestR6Results(t *testing.T) {
	r := rand.New(rand.NewSource(7))
	for range 3000 {
		members := list(r.Intn(1 << 16))
		v, l := of(1, roomy(members)...), roomy(first(16))
		next, ok := v.Next(l)
		if ok != (len(members) > 0) {
			t.Fatalf("Next of %v: %t", v, ok)
		}
		for n := -1; n <= 16; n++ {
			scribble(v.Without(n))
			scribble(v.With(n))
		}
		again, _ := v.Next(l)
		scribble(again.Members)
		if !slices.Equal(v.Members[:len(members)+3], append(members, 77, 78, 79)) || !slices.Equal(l[:19], append(first(16), 77, 78, 79)) {
			t.Fatalf("%v became %v with a result, and the list %v", members, v.Members, l)
		}
		scribble(v.Members)
		scribble(l)
		if ok && !slices.Equal(next.Members, first(16)) {
			t.Fatalf("the next view became %v with the view and the list", next)
		}
	}
}

// scribble overwrites a list and its spare capacity.
func scribble(l []int) {
	l = l[:cap(l)]
	for i := range l {
		l[i] = -99
	}
}

// R6: With and Without that were called before stay as they are.
func TestR6Twice(t *testing.T) {
	v := of(0, roomy([]int{2, 4, 6})...)
	for n := range 8 {
		for m := range 8 {
			with, without := v.With(n), v.Without(n)
			wanted, left := slices.Clone(with), slices.Clone(without)
			scribble(v.With(m))
			scribble(v.Without(m))
			wantList(t, with, wanted)
			wantList(t, without, left)
		}
	}
}

// R7: the zero view, which is no nil object, is one with no members.
func TestR7(t *testing.T) {
	var v troupe.View
	if v.Check() != api.ErrMany || v.Has(0) || v.Most([]int{0}) || len(v.Without(0)) != 0 || !troupe.Same(v, of(0)) {
		t.Error("the zero view has members")
	}
	wantNoNext(t, v, []int{0})
	wantList(t, v.With(0), []int{0})
}

// R8: nothing but the arguments matters: not what came before, nor who else
// asks.
func TestR8(t *testing.T) {
	done := make(chan bool)
	for i := range 4 {
		go func() {
			defer func() { done <- true }()
			r := rand.New(rand.NewSource(int64(i)))
			for range 5000 {
				wantMasks(t, r.Intn(1<<16), r.Intn(1<<16), r)
			}
		}()
	}
	for range 4 {
		<-done
	}
}
