package vote_test

import (
	"math"
	"math/rand"
	"testing"

	"prompter/vote"
)

// An act is a call of Promise, or of Accept with an entry.
type act struct {
	accept bool
	ballot vote.Ballot
	entry  vote.Entry
}

// above compares two ballots without help of package vote.
func above(b, o vote.Ballot) bool {
	return b.Round > o.Round || b.Round == o.Round && b.Node > o.Node
}

// A history is what succeeded of a Voter: all that it says is found there.
type history []act

// promised is the greatest ballot of all acts, and of 0, 0.
func (h history) promised() vote.Ballot {
	var b vote.Ballot
	for _, a := range h {
		if above(a.ballot, b) {
			b = a.ballot
		}
	}
	return b
}

// last returns the acceptance behind which there is no other, or a zero act.
func (h history) last() act {
	for i := len(h) - 1; i >= 0; i-- {
		if h[i].accept {
			return h[i]
		}
	}
	return act{}
}

// wantAct makes one act, and compares what is returned with the history, to
// which it is appended if it succeeds.
func wantAct(t *testing.T, v *vote.Voter, h history, a act) history {
	t.Helper()
	if b := v.Promised(); b != h.promised() {
		t.Fatalf("after %v: %v is promised, want %v", h, b, h.promised())
	}
	if a.accept {
		ok := !above(h.promised(), a.ballot)
		if v.Accept(a.ballot, a.entry) != ok {
			t.Fatalf("after %v: Accept(%v) is not %t", h, a.ballot, ok)
		}
		if !ok {
			return h
		}
		return append(h[:len(h):len(h)], a)
	}
	b, x, some, ok := v.Promise(a.ballot)
	if !above(a.ballot, h.promised()) {
		if b != (vote.Ballot{}) || !zero(x) || some || ok {
			t.Fatalf("after %v: Promise(%v): %v, %v, %t, %t", h, a.ballot, b, x, some, ok)
		}
		return h
	}
	last := h.last()
	if b != last.ballot || !same(x, last.entry) || some != last.accept || !ok {
		t.Fatalf("after %v: Promise(%v): %v, %v, %t, %t", h, a.ballot, b, x, some, ok)
	}
	return append(h[:len(h):len(h)], a)
}

// wantActs makes all acts with a new Voter, and looks at what it is in the end.
func wantActs(t *testing.T, acts ...act) {
	t.Helper()
	v := new(vote.Voter)
	var h history
	for _, a := range acts {
		h = wantAct(t, v, h, a)
	}
	wantAct(t, v, h, act{ballot: of(math.MaxInt, math.MaxInt)})
}

// P15.2: the example.
func TestP15_2Example(t *testing.T) {
	var v vote.Voter
	if _, _, some, ok := v.Promise(of(1, 0)); some || !ok {
		t.Errorf("Promise of round 1: %t, %t", some, ok)
	}
	if v.Accept(of(0, 0), vote.Entry{}) || v.Accept(of(0, 15), joined(1)) {
		t.Error("round 0 is accepted after Promise of round 1")
	}
	if v.Promised() != of(1, 0) {
		t.Errorf("%v is promised", v.Promised())
	}
}

// P15.2: a zero Voter has promised 0, 0, which it does not promise again, but
// accepts.
func TestP15_2Zero(t *testing.T) {
	var v vote.Voter
	for _, b := range []vote.Ballot{of(0, 0), of(0, -1), of(-1, 15), of(math.MinInt, math.MaxInt)} {
		if was, x, some, ok := v.Promise(b); was != of(0, 0) || !zero(x) || some || ok {
			t.Errorf("Promise(%v): %v, %v, %t, %t", b, was, x, some, ok)
		}
		if b != of(0, 0) && v.Accept(b, joined(3)) {
			t.Errorf("Accept(%v): true", b)
		}
	}
	if v.Promised() != of(0, 0) {
		t.Errorf("%v is promised", v.Promised())
	}
	if !v.Accept(of(0, 0), joined(3)) {
		t.Error("Accept of 0, 0: false")
	}
	if was, x, some, ok := v.Promise(of(0, 1)); was != of(0, 0) || !same(x, joined(3)) || !some || !ok {
		t.Errorf("Promise of 0, 1: %v, %v, %t, %t", was, x, some, ok)
	}
}

// P15.2: nothing that was accepted is something.
func TestP15_2AcceptedNothing(t *testing.T) {
	var v vote.Voter
	if _, _, some, ok := v.Promise(of(0, 1)); some || !ok {
		t.Errorf("nothing was accepted: %t, %t", some, ok)
	}
	if !v.Accept(of(0, 1), vote.Entry{}) {
		t.Error("Accept of the promised ballot: false")
	}
	if was, x, some, ok := v.Promise(of(0, 2)); was != of(0, 1) || !zero(x) || !some || !ok {
		t.Errorf("an entry of nothing was accepted: %v, %v, %t, %t", was, x, some, ok)
	}
}

// P15.2: a ballot equal to the promised one, after a Promise and after an
// Accept, in Promise and in Accept.
func TestP15_2Equal(t *testing.T) {
	b := of(3, 4)
	x, y := called(to(1, 2, 3, text(9))), joined(0, 5)
	wantActs(t, act{ballot: b}, act{ballot: b}, act{true, b, x}, act{ballot: b}, act{true, b, y}, act{true, b, x}, act{ballot: b})
	wantActs(t, act{true, b, x}, act{ballot: b}, act{true, b, y})
	wantActs(t, act{true, b, y}, act{true, b, vote.Entry{}})
}

// P15.2: what Accept says is promised too: a lower ballot comes too late.
func TestP15_2AcceptPromises(t *testing.T) {
	var v vote.Voter
	if !v.Accept(of(5, 1), joined(1)) || v.Promised() != of(5, 1) {
		t.Errorf("after Accept of 5, 1: %v is promised", v.Promised())
	}
	if _, _, _, ok := v.Promise(of(5, 0)); ok || v.Accept(of(5, 0), joined(2)) || v.Accept(of(4, 15), joined(2)) {
		t.Error("a lower ballot than the accepted one")
	}
	if was, x, some, ok := v.Promise(of(6, 0)); was != of(5, 1) || !same(x, joined(1)) || !some || !ok {
		t.Errorf("Promise of 6, 0: %v, %v, %t, %t", was, x, some, ok)
	}
	if !v.Accept(of(7, 0), joined(2)) || v.Promised() != of(7, 0) {
		t.Errorf("after Accept of 7, 0: %v is promised", v.Promised())
	}
	if was, x, some, ok := v.Promise(of(7, 1)); was != of(7, 0) || !same(x, joined(2)) || !some || !ok {
		t.Errorf("Promise of 7, 1: %v, %v, %t, %t", was, x, some, ok)
	}
}

// P15.2: a Promise does not forget what was accepted, nor change its ballot.
func TestP15_2Keeps(t *testing.T) {
	var v vote.Voter
	x := called(to(1, 2, 3, text(most)))
	if !v.Accept(of(1, 1), x) {
		t.Error("Accept of 1, 1: false")
	}
	for round := 2; round < 100; round++ {
		if was, got, some, ok := v.Promise(of(round, 0)); was != of(1, 1) || !same(got, x) || !some || !ok {
			t.Fatalf("Promise of %d, 0: %v, %.100v, %t, %t", round, was, got, some, ok)
		}
		if v.Accept(of(round-1, 15), joined(round)) {
			t.Fatalf("Accept of %d, 15: true", round-1)
		}
	}
}

// P15.2: all sequences of up to five promises and votes of some ballots, where
// each vote is for an entry of its own.
func TestP15_2All(t *testing.T) {
	ballots := []vote.Ballot{of(0, 0), of(0, 1), of(1, 0), of(1, 1), of(-1, 2)}
	var grow func(acts []act)
	grow = func(acts []act) {
		wantActs(t, acts...)
		if len(acts) == 5 {
			return
		}
		for _, b := range ballots {
			grow(append(acts[:len(acts):len(acts)], act{ballot: b}))
			grow(append(acts[:len(acts):len(acts)], act{true, b, joined(len(acts), 9)}))
		}
	}
	grow(nil)
}

// P15.2: long random sequences with ballots of all sorts, also with votes for
// entries that are not valid.
func TestP15_2Random(t *testing.T) {
	r := rand.New(rand.NewSource(152))
	numbers := []int{math.MinInt, -1, 0, 1, 2, 1 << 32, math.MaxInt - 1, math.MaxInt}
	for range 2000 {
		v := new(vote.Voter)
		var h history
		many := 3 + r.Intn(6)
		for range 40 {
			a := act{r.Intn(2) == 0, of(r.Intn(many), r.Intn(3)), randomEntry(r)}
			if r.Intn(20) == 0 {
				a.ballot.Round = numbers[r.Intn(many)]
			}
			if r.Intn(20) == 0 {
				a.entry = vote.Entry{Kind: vote.Kind(r.Intn(6)), Call: randomCall(r), Members: []int{r.Intn(20) - 2}}
			}
			if !a.accept {
				a.entry = vote.Entry{}
			}
			h = wantAct(t, v, h, a)
		}
	}
}
