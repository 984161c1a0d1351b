package chair_test

import (
	"bytes"
	"fmt"
	"math"
	"math/rand"
	"slices"
	"testing"

	"prompter/call"
	"prompter/chair"
	"prompter/troupe"
	"prompter/vote"
)

// of returns a ballot.
func of(round, node int) vote.Ballot {
	return vote.Ballot{Round: round, Node: node}
}

// called returns the entry of a call, of which no other number has the same.
func called(number int) vote.Entry {
	id := call.Id{Troupe: 7, Number: uint16(number)}
	return vote.Entry{Kind: vote.Called, Call: call.Call{Id: id, Proc: 3, Args: []byte{1, byte(number), 2}}}
}

// joined returns the entry of members.
func joined(members ...int) vote.Entry {
	return vote.Entry{Kind: vote.Joined, Members: members}
}

// same compares two entries without help of package vote.
func same(a, b vote.Entry) bool {
	return a.Kind == b.Kind && a.Call.Id == b.Call.Id && a.Call.Proc == b.Call.Proc && bytes.Equal(a.Call.Args, b.Call.Args) && slices.Equal(a.Members, b.Members)
}

// zero reports whether an entry is the zero one.
func zero(x vote.Entry) bool {
	return same(x, vote.Entry{})
}

// brief tells an entry, or, if it is long, its beginning.
func brief(x vote.Entry) string {
	s := fmt.Sprint(x)
	return s[:min(len(s), 200)]
}

// view returns a view of members.
func view(members ...int) troupe.View {
	return troupe.View{Number: 4, Members: members}
}

// first returns the nodes below n.
func first(n int) []int {
	l := make([]int, n)
	for i := range l {
		l[i] = i
	}
	return l
}

// some returns many nodes from 0 to 15, in ascending order.
func some(r *rand.Rand, many int) []int {
	l := r.Perm(16)[:many]
	slices.Sort(l)
	return l
}

// want checks what a chair is: its phase, its ballot, and its entry, which is
// looked at in the phases that have one.
func want(t *testing.T, c *chair.Chair, p chair.Phase, b vote.Ballot, x vote.Entry) {
	t.Helper()
	if c.Phase() != p || c.Ballot() != b {
		t.Fatalf("phase %d with %v, want %d with %v", c.Phase(), c.Ballot(), p, b)
	}
	has := p == chair.Voting || p == chair.Chosen
	if !has {
		x = vote.Entry{}
	}
	if got, ok := c.Entry(); ok != has || !same(got, x) {
		t.Fatalf("phase %d: entry %s, %t, want %s", p, brief(got), ok, brief(x))
	}
}

// promise makes n promise, without an entry that it accepted before.
func promise(c *chair.Chair, n int, b vote.Ballot) bool {
	return c.Promised(n, b, vote.Ballot{}, vote.Entry{}, false)
}

// voting returns a chair of the members that is Voting for x with b.
func voting(t *testing.T, b vote.Ballot, x vote.Entry, members ...int) *chair.Chair {
	t.Helper()
	c := chair.New(view(members...))
	c.Open(b, x)
	for _, n := range members[:len(members)/2+1] {
		promise(c, n, b)
	}
	want(t, c, chair.Voting, b, x)
	return c
}

// P16.1: the phases' numbers.
func TestP16_1Phases(t *testing.T) {
	if chair.Idle != 0 || chair.Asking != 1 || chair.Voting != 2 || chair.Chosen != 3 || chair.Phases != 4 {
		t.Error(chair.Idle, chair.Asking, chair.Voting, chair.Chosen, chair.Phases)
	}
}

// P16.1: the example: with one member, one promise is sufficient, and one
// acceptance.
func TestP16_1Example(t *testing.T) {
	for n := range 16 {
		c := chair.New(view(n))
		want(t, c, chair.Idle, of(0, 0), vote.Entry{})
		c.Open(of(1, n), called(5))
		want(t, c, chair.Asking, of(1, n), vote.Entry{})
		if !promise(c, n, of(1, n)) {
			t.Fatalf("promise of %d: false", n)
		}
		want(t, c, chair.Voting, of(1, n), called(5))
		if !c.Accepted(n, of(1, n)) {
			t.Fatalf("acceptance of %d: false", n)
		}
		want(t, c, chair.Chosen, of(1, n), called(5))
	}
}

// P16.1: in every view of one to sixteen members, exactly half of them are too
// few, and one more is enough; those behind the majority change nothing.
func TestP16_1Majority(t *testing.T) {
	r := rand.New(rand.NewSource(161))
	b, x := of(3, 2), called(9)
	for range 40 {
		for many := 1; many <= 16; many++ {
			l := some(r, many)
			c := chair.New(view(l...))
			c.Open(b, x)
			for i, at := range r.Perm(many) {
				before := chair.Asking
				if 2*i > many {
					before = chair.Voting
				}
				want(t, c, before, b, x)
				if ok := promise(c, l[at], b); ok != (i == many/2) {
					t.Fatalf("promise %d of %d: %t", i+1, many, ok)
				}
			}
			for i, at := range r.Perm(many) {
				before := chair.Voting
				if 2*i > many {
					before = chair.Chosen
				}
				want(t, c, before, b, x)
				if ok := c.Accepted(l[at], b); ok != (i == many/2) {
					t.Fatalf("acceptance %d of %d: %t", i+1, many, ok)
				}
			}
			want(t, c, chair.Chosen, b, x)
		}
	}
}

// P16.1: a member that promises, or accepts, twice counts once, in views of all
// sizes and at each place before the majority.
func TestP16_1Twice(t *testing.T) {
	b, x := of(1, 0), called(1)
	for many := 2; many <= 16; many++ {
		c := chair.New(view(first(many)...))
		c.Open(b, x)
		for n := range many / 2 {
			for again := 0; again <= n; again++ {
				for range 3 {
					promise(c, n, b)
					if promise(c, again, b) {
						t.Fatalf("%d promises again, of %d: true", again, many)
					}
				}
			}
		}
		want(t, c, chair.Asking, b, x)
		c = voting(t, b, x, first(many)...)
		for n := range many / 2 {
			for again := 0; again <= n; again++ {
				for range 3 {
					c.Accepted(n, b)
					if c.Accepted(again, b) {
						t.Fatalf("%d accepts again, of %d: true", again, many)
					}
				}
			}
		}
		want(t, c, chair.Voting, b, x)
	}
}

// P16.1: a member's second promise reports nothing, neither a greater ballot
// nor its first one.
func TestP16_1TwiceReports(t *testing.T) {
	b := of(9, 0)
	c := chair.New(view(0, 1, 2))
	c.Open(b, called(1))
	c.Promised(1, b, of(2, 0), called(2), true)
	c.Promised(1, b, of(5, 0), called(5), true)
	promise(c, 0, b)
	want(t, c, chair.Voting, b, called(2))
	c.Open(b, called(1))
	promise(c, 1, b)
	c.Promised(1, b, of(5, 0), called(5), true)
	promise(c, 2, b)
	want(t, c, chair.Voting, b, called(1))
}

// P16.1: who promised may accept or not, and who did not promise may accept,
// too.
func TestP16_1Others(t *testing.T) {
	b := of(2, 1)
	c := voting(t, b, joined(0, 3), 0, 1, 2, 3, 4)
	if c.Accepted(4, b) || c.Accepted(3, b) || !c.Accepted(0, b) {
		t.Error("three of five do not choose")
	}
	want(t, c, chair.Chosen, b, joined(0, 3))
}

// P16.1: nodes that are no members are not counted, and report nothing.
func TestP16_1NoMembers(t *testing.T) {
	b, x := of(1, 3), called(1)
	others := []int{-1, 0, 2, 4, 5, 6, 8, 14, 16, 17, 3 + 1<<32, 7 - 1<<32, math.MinInt, math.MaxInt}
	c := chair.New(view(1, 3, 7, 15))
	c.Open(b, x)
	for _, n := range others {
		if promise(c, n, b) || c.Promised(n, b, of(9, 9), called(9), true) {
			t.Errorf("promise of %d: true", n)
		}
	}
	want(t, c, chair.Asking, b, x)
	if promise(c, 1, b) || promise(c, 15, b) || !promise(c, 7, b) {
		t.Error("three of four do not promise")
	}
	for _, n := range others {
		if c.Accepted(n, b) {
			t.Errorf("acceptance of %d: true", n)
		}
	}
	want(t, c, chair.Voting, b, x)
	if c.Accepted(1, b) || c.Accepted(15, b) || !c.Accepted(3, b) {
		t.Error("three of four do not choose")
	}
	want(t, c, chair.Chosen, b, x)
}

// P16.1: another ballot than the one that is asked with, below or above, and
// only in its round or only in its node.
func TestP16_1OtherBallots(t *testing.T) {
	b, x := of(4, 6), called(1)
	others := []vote.Ballot{of(0, 0), of(4, 5), of(4, 7), of(3, 6), of(5, 6), of(6, 4), of(-4, 6), of(4, -6), of(4+1<<32, 6), of(4, 6+1<<32), of(math.MaxInt, math.MaxInt), of(math.MinInt, math.MinInt)}
	c := chair.New(view(0, 1, 2))
	c.Open(b, x)
	for n := range 3 {
		for _, o := range others {
			if promise(c, n, o) || c.Promised(n, o, of(9, 9), called(9), true) || c.Promised(n, o, b, called(9), true) {
				t.Errorf("promise of %v: true", o)
			}
		}
	}
	want(t, c, chair.Asking, b, x)
	if promise(c, 2, b) || !promise(c, 0, b) {
		t.Error("two of three do not promise")
	}
	for n := range 3 {
		for _, o := range others {
			if c.Accepted(n, o) {
				t.Errorf("acceptance with %v: true", o)
			}
		}
	}
	want(t, c, chair.Voting, b, x)
	if c.Accepted(2, b) || !c.Accepted(0, b) {
		t.Error("two of three do not choose")
	}
	want(t, c, chair.Chosen, b, x)
}

// inPhase returns a chair of nodes 0 to 4 in a phase, with ballot b and entry
// x, of which two members are heard in that phase.
func inPhase(t *testing.T, p chair.Phase, b vote.Ballot, x vote.Entry) *chair.Chair {
	t.Helper()
	c := chair.New(view(0, 1, 2, 3, 4))
	if p >= chair.Asking {
		c.Open(b, x)
		promise(c, 0, b)
		c.Promised(1, b, of(1, 1), x, true)
	}
	if p >= chair.Voting {
		promise(c, 2, b)
		c.Accepted(0, b)
		c.Accepted(1, b)
	}
	if p >= chair.Chosen {
		c.Accepted(2, b)
	}
	want(t, c, p, b, x)
	return c
}

// ballotIn is the ballot that is asked with in a phase, if it once was b.
func ballotIn(p chair.Phase, b vote.Ballot) vote.Ballot {
	if p == chair.Idle {
		return vote.Ballot{}
	}
	return b
}

// P16.1: promises in a phase other than Asking, and acceptances in a phase
// other than Voting.
func TestP16_1OtherPhases(t *testing.T) {
	for p := range chair.Phases {
		b := ballotIn(p, of(6, 2))
		c := inPhase(t, p, b, called(3))
		for n := -1; n < 7; n++ {
			if p != chair.Asking && (promise(c, n, b) || c.Promised(n, b, of(9, 9), called(9), true)) {
				t.Errorf("phase %d: promise of %d: true", p, n)
			}
			if p != chair.Voting && c.Accepted(n, b) {
				t.Errorf("phase %d: acceptance of %d: true", p, n)
			}
		}
		want(t, c, p, b, called(3))
		switch p { // the third member is still enough
		case chair.Asking:
			if !promise(c, 4, b) {
				t.Error("a promise after acceptances: false")
			}
		case chair.Voting:
			if !c.Accepted(4, b) {
				t.Error("an acceptance after promises: false")
			}
		}
	}
}

// P16.1: acceptances while Asking do not count later.
func TestP16_1TooEarly(t *testing.T) {
	b, x := of(1, 1), called(2)
	c := chair.New(view(0, 1, 2))
	c.Open(b, x)
	for n := range 3 {
		c.Accepted(n, b)
	}
	promise(c, 0, b)
	promise(c, 1, b)
	want(t, c, chair.Voting, b, x)
	if c.Accepted(0, b) || !c.Accepted(2, b) {
		t.Error("two of three do not choose")
	}
}

// P16.1: Open in each phase starts again: nothing that was promised, reported
// or accepted before counts, whether the ballot is a greater one, the same or a
// lower one.
func TestP16_1Open(t *testing.T) {
	old := of(6, 2)
	for p := range chair.Phases {
		for _, b := range []vote.Ballot{of(7, 2), of(6, 3), old, of(5, 9), of(0, 0), of(-3, 2)} {
			c := inPhase(t, p, ballotIn(p, old), called(3))
			c.Open(b, called(4))
			want(t, c, chair.Asking, b, called(4))
			if b != old && (promise(c, 0, old) || promise(c, 3, old) || promise(c, 4, old)) || c.Accepted(2, old) || c.Accepted(2, b) {
				t.Errorf("phase %d, Open(%v): what is late counts", p, b)
			}
			want(t, c, chair.Asking, b, called(4))
			if promise(c, 0, b) || promise(c, 2, b) || !promise(c, 4, b) {
				t.Errorf("phase %d, Open(%v): three of five do not promise", p, b)
			}
			want(t, c, chair.Voting, b, called(4))
			if c.Accepted(1, b) || c.Accepted(2, b) || !c.Accepted(3, b) {
				t.Errorf("phase %d, Open(%v): three of five do not choose", p, b)
			}
			want(t, c, chair.Chosen, b, called(4))
		}
	}
}

// P16.1: an Open after an Open is for the entry of the second one.
func TestP16_1OpenTwice(t *testing.T) {
	c := chair.New(view(3))
	c.Open(of(1, 3), called(1))
	c.Open(of(2, 3), called(2))
	if promise(c, 3, of(1, 3)) || !promise(c, 3, of(2, 3)) {
		t.Error("the first ballot counts")
	}
	want(t, c, chair.Voting, of(2, 3), called(2))
}

// P16.1: a new chair, and one that New did not make, are Idle with no ballot
// and no entry; also ballot 0, 0 is not asked with.
func TestP16_1Idle(t *testing.T) {
	for _, c := range []*chair.Chair{chair.New(view(0)), chair.New(troupe.View{}), new(chair.Chair)} {
		for range 2 {
			want(t, c, chair.Idle, of(0, 0), vote.Entry{})
			if promise(c, 0, of(0, 0)) || c.Promised(0, of(0, 0), of(0, 0), called(1), true) || c.Accepted(0, of(0, 0)) {
				t.Error("something counts before Open")
			}
		}
	}
}

// P16.1: a view without members never has more than half of them; nor has one
// that New did not make.
func TestP16_1Nobody(t *testing.T) {
	for _, c := range []*chair.Chair{chair.New(troupe.View{}), chair.New(view([]int{}...)), new(chair.Chair)} {
		for _, b := range []vote.Ballot{of(1, 0), of(0, 0)} {
			c.Open(b, called(1))
			for n := -1; n < 17; n++ {
				if promise(c, n, b) || c.Promised(n, b, of(1, 0), called(2), true) || c.Accepted(n, b) {
					t.Errorf("%d counts", n)
				}
			}
			want(t, c, chair.Asking, b, vote.Entry{})
		}
	}
}

// P16.1: the view's number does not matter, and a view that chapter 14 rejects
// is counted by its Most: a member that stands there twice counts twice.
func TestP16_1Views(t *testing.T) {
	b, x := of(1, 0), called(1)
	for _, number := range []int{math.MinInt, -1, 0, 1, math.MaxInt} {
		c := chair.New(troupe.View{Number: number, Members: []int{4, 5}})
		c.Open(b, x)
		if promise(c, 4, b) || !promise(c, 5, b) || c.Accepted(5, b) || !c.Accepted(4, b) {
			t.Errorf("view %d", number)
		}
	}
	c := chair.New(view(9, -2, 9, 9, 40, 3))
	c.Open(b, x)
	if promise(c, 9, b) || promise(c, 9, b) || !promise(c, 40, b) || c.Accepted(3, b) || c.Accepted(-2, b) || !c.Accepted(9, b) {
		t.Error("a member that stands there three times")
	}
	c = chair.New(view(first(300)...))
	c.Open(b, x)
	for n := range 300 {
		if promise(c, 299-n, b) != (n == 150) {
			t.Errorf("promise of %d of 300", 299-n)
		}
	}
}

// P16.1: entries of every kind, also such as chapter 15 rejects, are put to the
// vote as they are.
func TestP16_1Entries(t *testing.T) {
	long := called(1)
	long.Call.Args = bytes.Repeat([]byte{1, 2, 3}, 2000)
	long.Call.Proc = -1
	for i, x := range []vote.Entry{{}, called(0), called(65535), joined(0), joined(first(16)...), joined(), long, {Kind: 200, Call: long.Call, Members: []int{-5, 99}}} {
		t.Run(fmt.Sprint(i), func(t *testing.T) {
			b := of(1, 0)
			c := voting(t, b, x, 0, 1)
			c.Accepted(0, b)
			c.Accepted(1, b)
			want(t, c, chair.Chosen, b, x)
			c = chair.New(view(0))
			c.Open(b, called(77))
			c.Promised(0, b, of(0, 9), x, true)
			want(t, c, chair.Voting, b, x)
			c.Accepted(0, b)
			want(t, c, chair.Chosen, b, x)
		})
	}
}
