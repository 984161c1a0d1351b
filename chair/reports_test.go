package chair_test

import (
	"math"
	"math/rand"
	"slices"
	"testing"

	"prompter/chair"
	"prompter/vote"
)

// Which entry is put to the vote, of those that members had accepted.

// A report is the ballot and the entry of a promise, or nothing.
type report struct {
	was  vote.Ballot
	x    vote.Entry
	some bool
}

// above compares two ballots without help of package vote.
func above(b, o vote.Ballot) bool {
	return b.Round > o.Round || b.Round == o.Round && b.Node > o.Node
}

// best is the entry of the report that no other one is above, and that is the
// first of those; or own.
func best(l []report, own vote.Entry) vote.Entry {
	for i, a := range l {
		beats := func(o report) bool { return o.some && above(o.was, a.was) }
		equals := func(o report) bool { return o.some && o.was == a.was }
		if a.some && !slices.ContainsFunc(l, beats) && !slices.ContainsFunc(l[:i], equals) {
			return a.x
		}
	}
	return own
}

// wantReports opens a chair of as many members as the reports need, and checks
// that the best of them is put to the vote and chosen.
func wantReports(t *testing.T, b vote.Ballot, l []report) {
	t.Helper()
	own := called(100)
	c := chair.New(view(first(2*len(l) - 1)...))
	c.Open(b, own)
	for i, a := range l {
		if c.Promised(i, b, a.was, a.x, a.some) != (i == len(l)-1) {
			t.Fatalf("promise %d of %v", i+1, l)
		}
	}
	want(t, c, chair.Voting, b, best(l, own))
	for i := range l {
		c.Accepted(len(l)-1+i, b)
	}
	want(t, c, chair.Chosen, b, best(l, own))
}

// P16.1: the entry with the greatest ballot, in whichever order they are
// reported; rounds come before nodes.
func TestP16_1Greatest(t *testing.T) {
	b := of(10, 0)
	one, two, three := report{of(1, 9), called(1), true}, report{of(2, 0), called(2), true}, report{of(2, 1), called(3), true}
	none := report{}
	for _, l := range [][]report{{one}, {one, two}, {two, one}, {one, two, three}, {three, two, one}, {two, three, one}, {three, none, none}, {none, one, none}, {none, none, two}, {none, three, two, none, one}} {
		wantReports(t, b, l)
	}
	c := chair.New(view(0, 1, 2, 3, 4))
	c.Open(b, called(100))
	c.Promised(0, b, of(2, 1), called(3), true)
	c.Promised(1, b, of(1, 9), called(1), true)
	c.Promised(2, b, of(2, 0), called(2), true)
	want(t, c, chair.Voting, b, called(3))
}

// P16.1: if nobody had accepted one, the entry is the chair's own; what a
// promise tells beside false does not matter.
func TestP16_1Own(t *testing.T) {
	b := of(10, 0)
	wantReports(t, b, []report{{}, {}, {}})
	wantReports(t, b, []report{{was: of(3, 3), x: called(3)}})
	wantReports(t, b, []report{{was: of(3, 3), x: called(3)}, {of(2, 0), called(2), true}, {was: of(9, 9), x: called(9)}})
}

// P16.1: of several accepted with one ballot, the one that was reported first,
// also with a lower one before, between or behind them.
func TestP16_1First(t *testing.T) {
	b := of(10, 0)
	x, y, z := report{of(3, 1), called(1), true}, report{of(3, 1), called(2), true}, report{of(3, 1), called(3), true}
	low := report{of(3, 0), called(4), true}
	for _, l := range [][]report{{x, y}, {y, x}, {x, y, z}, {z, y, x}, {low, y, x}, {y, low, x}, {z, x, low}, {{}, low, {}, y, x, z}} {
		wantReports(t, b, l)
	}
	c := chair.New(view(5, 6, 7))
	c.Open(b, called(100))
	c.Promised(7, b, of(0, 0), called(2), true)
	c.Promised(5, b, of(0, 0), called(1), true)
	want(t, c, chair.Voting, b, called(2))
}

// P16.1: an entry accepted with ballot 0, 0, or a lower one, is reported as
// any, and so is one accepted with the ballot that is asked with, or above.
func TestP16_1AnyBallot(t *testing.T) {
	numbers := []int{math.MinInt, -1, 0, 1, 5, 6, 1 << 32, math.MaxInt}
	for _, round := range numbers {
		for _, node := range numbers {
			wantReports(t, of(5, 5), []report{{of(round, node), called(1), true}})
			wantReports(t, of(5, 5), []report{{of(round, node), called(1), true}, {}, {of(round, node), called(2), true}})
			for _, other := range numbers {
				wantReports(t, of(5, 5), []report{{of(round, node), called(1), true}, {of(other, node), called(2), true}})
				wantReports(t, of(5, 5), []report{{of(round, node), called(1), true}, {of(round, other), called(2), true}})
			}
		}
	}
}

// P16.1: nothing that was accepted is an entry, too: it is put to the vote, not
// the chair's own.
func TestP16_1NothingAccepted(t *testing.T) {
	wantReports(t, of(2, 0), []report{{of(1, 0), vote.Entry{}, true}})
	wantReports(t, of(2, 0), []report{{}, {of(0, 0), vote.Entry{}, true}})
	wantReports(t, of(2, 0), []report{{of(0, 2), called(3), true}, {of(1, 0), vote.Entry{}, true}, {of(0, 1), called(4), true}})
}

// P16.1: all reports of four members, each of which had accepted nothing, or an
// entry with one of four ballots.
func TestP16_1AllReports(t *testing.T) {
	ballots := []vote.Ballot{of(0, 1), of(1, 0), of(1, 1), of(2, 0)}
	var grow func(l []report)
	grow = func(l []report) {
		if len(l) == 4 {
			wantReports(t, of(2, 1), l)
			return
		}
		grow(append(slices.Clone(l), report{}))
		for _, was := range ballots {
			grow(append(slices.Clone(l), report{was, called(len(l)), true}))
		}
	}
	grow(nil)
}

// P16.1: promises behind the majority report nothing, neither while Voting nor
// when an entry is chosen.
func TestP16_1Behind(t *testing.T) {
	b := of(10, 0)
	for _, l := range [][]report{{{}, {}, {}}, {{of(1, 0), called(1), true}, {}, {}}} {
		c := chair.New(view(0, 1, 2, 3, 4))
		c.Open(b, called(100))
		for n, a := range l {
			c.Promised(n, b, a.was, a.x, a.some)
		}
		x := best(l, called(100))
		for n := range 5 {
			if c.Promised(n, b, of(9, n), called(9), true) {
				t.Errorf("promise of %d behind the majority: true", n)
			}
			want(t, c, chair.Voting, b, x)
		}
		for n := range 5 {
			if c.Accepted(n, b) != (n == 2) {
				t.Errorf("acceptance of %d", n)
			}
			c.Promised(n, b, of(9, n), called(9), true)
			if got, ok := c.Entry(); !ok || !same(got, x) {
				t.Errorf("entry %v, %t, want %v", got, ok, x)
			}
		}
		want(t, c, chair.Chosen, b, x)
	}
}

// P16.1: what was reported for one ballot is not remembered with the next one,
// which hears it again, or not.
func TestP16_1Again(t *testing.T) {
	c := chair.New(view(0, 1, 2))
	c.Open(of(8, 0), called(1))
	c.Promised(0, of(8, 0), of(7, 0), called(7), true)
	c.Open(of(9, 0), called(2))
	c.Promised(1, of(9, 0), of(3, 0), called(3), true)
	promise(c, 2, of(9, 0))
	want(t, c, chair.Voting, of(9, 0), called(3))
	c.Open(of(10, 0), called(4))
	promise(c, 0, of(10, 0))
	promise(c, 2, of(10, 0))
	want(t, c, chair.Voting, of(10, 0), called(4))
}

// P16.1: random reports of one to eight members.
func TestP16_1RandomReports(t *testing.T) {
	r := rand.New(rand.NewSource(162))
	for range 20000 {
		l := make([]report, 1+r.Intn(8))
		for i := range l {
			l[i] = report{of(r.Intn(4), r.Intn(4)), called(i), r.Intn(3) > 0}
		}
		wantReports(t, of(4, 0), l)
	}
}
