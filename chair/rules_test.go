package chair_test

import (
	"bytes"
	"math"
	"math/rand"
	"slices"
	"testing"

	"prompter/call"
	"prompter/chair"
	"prompter/troupe"
	"prompter/vote"
)

// anyNumber returns a number of any size.
func anyNumber(r *rand.Rand) int {
	return int(r.Uint64()) >> r.Intn(64)
}

// anyEntry returns an entry, which need not be valid.
func anyEntry(r *rand.Rand) vote.Entry {
	x := vote.Entry{Kind: vote.Kind(r.Intn(256) >> r.Intn(8)), Call: call.Call{Proc: anyNumber(r), Args: make([]byte, r.Intn(9))}}
	r.Read(x.Call.Args)
	for range r.Intn(5) {
		x.Members = append(x.Members, anyNumber(r))
	}
	return x
}

// P1: views, ballots, nodes and entries of any numbers and lengths, through
// every function.
func TestP1Any(t *testing.T) {
	r := rand.New(rand.NewSource(1))
	for range 5000 {
		members := make([]int, r.Intn(40))
		for i := range members {
			members[i] = anyNumber(r)
		}
		c := chair.New(troupe.View{Number: anyNumber(r), Members: members})
		b := of(anyNumber(r), anyNumber(r))
		for range r.Intn(3) {
			c.Open(b, anyEntry(r))
			for _, n := range append(members, anyNumber(r)) {
				c.Promised(n, b, of(anyNumber(r), anyNumber(r)), anyEntry(r), r.Intn(2) == 0)
			}
			for _, n := range append(members, anyNumber(r)) {
				c.Accepted(n, b)
			}
		}
		p := c.Phase()
		if _, ok := c.Entry(); ok != (p == chair.Chosen) || p >= chair.Phases {
			t.Fatalf("phase %d: entry %t", p, ok)
		}
	}
	huge := vote.Entry{Kind: 255, Call: call.Call{Proc: math.MinInt, Args: make([]byte, 1<<20)}, Members: make([]int, 1<<20)}
	c := chair.New(view(make([]int, 1<<20)...))
	c.Open(of(0, 0), huge)
	if !promise(c, 0, of(0, 0)) || !c.Accepted(0, of(0, 0)) {
		t.Error("a node that is a member many times")
	}
	want(t, c, chair.Chosen, of(0, 0), huge)
}

// R1: rounds and nodes have 64 bits.
func TestR1(t *testing.T) {
	b := of(1<<40, 1<<40)
	c := chair.New(view(1<<33, 1<<34))
	c.Open(b, called(1))
	if promise(c, 1<<33, of(0, 0)) || promise(c, 0, b) || promise(c, 1<<33, b) {
		t.Error("numbers are cut")
	}
	if !c.Promised(1<<34, b, of(1<<32, 0), called(2), true) {
		t.Error("two of two do not promise")
	}
	want(t, c, chair.Voting, b, called(2))
	wantReports(t, b, []report{{of(1<<32, 0), called(1), true}, {of(1, 0), called(2), true}})
	wantReports(t, b, []report{{of(5, 1<<32), called(1), true}, {of(5, 1), called(2), true}})
	wantReports(t, b, []report{{of(-1<<32, 0), called(1), true}, {of(-1, 0), called(2), true}})
}

// R3: beside false there is a zero entry, though the chair has one of its own,
// was told of others, and had one chosen before.
func TestR3(t *testing.T) {
	c := inPhase(t, chair.Chosen, of(2, 0), called(1))
	c.Open(of(3, 0), called(2))
	c.Promised(0, of(3, 0), of(2, 0), called(1), true)
	if x, ok := c.Entry(); ok || !zero(x) {
		t.Errorf("entry %v, %t", x, ok)
	}
}

// R4: what returns false because it is not recorded has changed nothing, in
// each phase: the same acts behind it return and lead to the same.
func TestR4(t *testing.T) {
	b := of(6, 2)
	for p := range chair.Phases {
		c, clean := inPhase(t, p, ballotIn(p, b), called(3)), inPhase(t, p, ballotIn(p, b), called(3))
		for n := -1; n < 7; n++ {
			for _, o := range []vote.Ballot{of(5, 2), of(7, 2), of(6, 1)} {
				c.Promised(n, o, of(9, 9), called(9), true)
				c.Accepted(n, o)
			}
			if n < 2 || n > 4 { // no member, or one that is heard already
				c.Promised(n, b, of(9, 9), called(9), true)
				c.Accepted(n, b)
			}
		}
		for n := range 5 {
			if promise(c, n, b) != promise(clean, n, b) {
				t.Errorf("phase %d: promise of %d", p, n)
			}
			x, _ := clean.Entry()
			want(t, c, clean.Phase(), clean.Ballot(), x)
		}
		for n := 4; n >= 0; n-- {
			if c.Accepted(n, b) != clean.Accepted(n, b) {
				t.Errorf("phase %d: acceptance of %d", p, n)
			}
			x, _ := clean.Entry()
			want(t, c, clean.Phase(), clean.Ballot(), x)
		}
	}
}

// R5: no members and no arguments may be nil or empty.
func TestR5(t *testing.T) {
	b := of(1, 0)
	for _, x := range []vote.Entry{{Kind: vote.Called}, {Kind: vote.Called, Call: call.Call{Args: []byte{}}, Members: []int{}}} {
		c := voting(t, b, x, 0)
		want(t, c, chair.Voting, b, vote.Entry{Kind: vote.Called})
	}
	for _, l := range [][]int{nil, {}} {
		c := chair.New(troupe.View{Members: l})
		c.Open(b, called(1))
		if promise(c, 0, b) || c.Accepted(0, b) {
			t.Error("no members choose")
		}
		want(t, c, chair.Asking, b, called(1))
	}
}

// room returns a copy of a list, with spare capacity that has something in it.
func room[T byte | int](l []T) []T {
	return append(slices.Clone(l), 77, 78, 79)[:len(l)]
}

// intact reports whether a list that room returned is as it was, also behind
// its end.
func intact[T byte | int](l, was []T) bool {
	return slices.Equal(l[:len(l)+3], append(slices.Clone(was), 77, 78, 79))
}

// roomy returns an entry whose lists have spare capacity.
func roomy(x vote.Entry) vote.Entry {
	x.Call.Args, x.Members = room(x.Call.Args), room(x.Members)
	return x
}

// unchanged reports whether an entry that roomy returned is as it was.
func unchanged(x, was vote.Entry) bool {
	return same(x, was) && intact(x.Call.Args, was.Call.Args) && intact(x.Members, was.Members)
}

// scribble overwrites an entry's lists and their spare capacity.
func scribble(x vote.Entry) {
	clear(x.Call.Args[:cap(x.Call.Args)])
	clear(x.Members[:cap(x.Members)])
}

// R6: neither the view nor entries are changed, also behind their ends.
func TestR6Unchanged(t *testing.T) {
	r := rand.New(rand.NewSource(6))
	for range 2000 {
		was := []vote.Entry{anyEntry(r), anyEntry(r), anyEntry(r)}
		x := []vote.Entry{roomy(was[0]), roomy(was[1]), roomy(was[2])}
		l := some(r, 1+r.Intn(16))
		v := room(l)
		c := chair.New(troupe.View{Number: 3, Members: v})
		for round := range 3 {
			b := of(round, 0)
			c.Open(b, x[0])
			for _, n := range l {
				c.Promised(n, b, of(r.Intn(3), 0), x[1+r.Intn(2)], r.Intn(2) == 0)
			}
			for _, n := range l {
				c.Accepted(n, b)
			}
			got, _ := c.Entry()
			scribble(got)
		}
		for i := range x {
			if !unchanged(x[i], was[i]) {
				t.Fatalf("%v became %v", was[i], x[i])
			}
		}
		if !intact(v, l) {
			t.Fatalf("members %v became %v", l, v)
		}
	}
}

// R6: what Entry returns is apart from what is retained, and from what another
// Entry returns.
func TestR6Entry(t *testing.T) {
	long := called(3)
	long.Call.Args = bytes.Repeat([]byte{1, 2, 3}, 100)
	for _, x := range []vote.Entry{long, joined(first(9)...), {Kind: 9, Call: long.Call, Members: first(9)}} {
		b := of(2, 0)
		for _, reported := range []bool{false, true} {
			c := chair.New(view(0))
			c.Open(b, roomy(x))
			c.Promised(0, b, of(1, 0), roomy(x), reported)
			for range 3 {
				one, _ := c.Entry()
				other, _ := c.Entry()
				scribble(one)
				if !same(other, x) {
					t.Errorf("%v became %v with another result", x, other)
				}
				want(t, c, c.Phase(), b, x)
				c.Accepted(0, b)
			}
			want(t, c, chair.Chosen, b, x)
		}
	}
}

// R6: what Entry returned stays when the chair opens again.
func TestR6Later(t *testing.T) {
	c := voting(t, of(1, 0), roomy(joined(1, 2, 3)), 0)
	x, _ := c.Entry()
	c.Open(of(2, 0), joined(4, 5, 6))
	c.Promised(0, of(2, 0), of(1, 0), joined(7, 8, 9), true)
	if !same(x, joined(1, 2, 3)) {
		t.Errorf("the entry became %v", x)
	}
}

// R7: a nil chair is Idle, and records nothing.
func TestR7(t *testing.T) {
	var c *chair.Chair
	for _, b := range []vote.Ballot{of(0, 0), of(1, 2), of(-1, 0), of(math.MaxInt, math.MaxInt)} {
		c.Open(b, called(1))
		for n := -1; n < 17; n++ {
			if promise(c, n, b) || c.Promised(n, b, of(1, 1), called(2), true) || c.Accepted(n, b) {
				t.Errorf("%d, %v: true", n, b)
			}
		}
		want(t, c, chair.Idle, of(0, 0), vote.Entry{})
	}
}

// R8: nothing but the acts of the same chair matters: not those of others,
// between them, whose view is the same.
func TestR8(t *testing.T) {
	r := rand.New(rand.NewSource(8))
	for range 100 {
		l := some(r, 1+r.Intn(16))
		v := view(l...)
		chairs, models := make([]*chair.Chair, 5), make([]model, 5)
		for i := range chairs {
			chairs[i], models[i] = chair.New(v), model{members: l}
		}
		for range 400 {
			i := r.Intn(5)
			a := randomAct(r, l, models[i].ballot())
			next, ok := models[i].told(a)
			if a.do(chairs[i]) != ok {
				t.Fatalf("%v: not %t", a, ok)
			}
			models[i] = next
			for j, m := range models {
				want(t, chairs[j], m.phase(), m.ballot(), m.entry())
			}
		}
	}
}

// R8: nor who else acts at the same time, on the same view and entries.
func TestR8Beside(t *testing.T) {
	done := make(chan bool)
	v, shared := view(0, 1, 2), called(1)
	for i := range 4 {
		go func() {
			defer func() { done <- true }()
			c := chair.New(v)
			for round := range 2000 {
				b := of(round, i)
				c.Open(b, shared)
				if promise(c, 0, b) || !c.Promised(1, b, of(0, 0), shared, true) || c.Accepted(2, b) || !c.Accepted(0, b) {
					t.Errorf("round %d", round)
				}
				if x, ok := c.Entry(); !ok || !same(x, called(1)) || c.Phase() != chair.Chosen || c.Ballot() != b {
					t.Errorf("round %d: %v, %t", round, x, ok)
				}
			}
		}()
	}
	for range 4 {
		<-done
	}
}
