package vote_test

import (
	"math/rand"
	"testing"

	"prompter/vote"
)

// P3: what one member promises and accepts for one place. These tests look at
// what the protocol relies on, rather than at single results: the ballots never
// sink, and of what a majority has accepted every later majority hears.

// P3: what is promised never sinks; what was accepted below a promise is
// reported with it, and nothing below is accepted after it; and what is
// reported was accepted with the greatest ballot of all.
func TestP3Voter(t *testing.T) {
	r := rand.New(rand.NewSource(3))
	for range 3000 {
		v := new(vote.Voter)
		greatest, some := vote.Ballot{}, false
		entries := map[vote.Ballot]vote.Entry{}
		for range 50 {
			before, b := v.Promised(), of(r.Intn(6), r.Intn(3))
			if r.Intn(2) == 0 {
				x := randomEntry(r)
				if v.Accept(b, x) {
					greatest, some, entries[b] = b, true, x
				}
				if ok := v.Promised() == b && greatest == b; ok == above(before, b) {
					t.Fatalf("Accept(%v) after a promise of %v: %t", b, before, ok)
				}
			} else if was, x, there, ok := v.Promise(b); ok {
				if !above(b, before) || above(was, b) || was == b && there {
					t.Fatalf("Promise(%v) after a promise of %v reports %v", b, before, was)
				}
				if there != some || was != greatest || !same(x, entries[greatest]) {
					t.Fatalf("Promise(%v) reports %v, %v, %t, not %v", b, was, x, there, greatest)
				}
			}
			if above(before, v.Promised()) {
				t.Fatalf("%v is promised after %v", v.Promised(), before)
			}
		}
	}
}

// A bid is one ballot for an entry, as a proposer makes it.
type bid struct {
	ballot   vote.Ballot
	entry    vote.Entry
	best     vote.Ballot // with which the entry was accepted, if reported
	reported bool
	promised map[int]bool
	accepted map[int]bool
}

// hear counts a promise: of the entries that are reported, the one with the
// greatest ballot is voted for.
func (p *bid) hear(n int, was vote.Ballot, x vote.Entry, some bool) {
	if some && (!p.reported || above(was, p.best)) {
		p.reported, p.best, p.entry = true, was, x
	}
	p.promised[n] = true
}

// A message asks a voter for its promise, or for its vote for an entry.
type message struct {
	bid   int
	voter int
	votes bool
	entry vote.Entry
}

// A place has voters, bids, and messages in flight.
type place struct {
	voters []vote.Voter
	bids   []*bid
	flight []message
}

// newPlace returns a place of so many voters and bids, whose asking is in
// flight.
func newPlace(r *rand.Rand, voters, bids int) *place {
	p := &place{voters: make([]vote.Voter, voters)}
	for i := range bids {
		p.bids = append(p.bids, &bid{
			ballot: of(1+r.Intn(3), i), entry: called(to(uint16(i), 1, 2, []byte{3})),
			promised: map[int]bool{}, accepted: map[int]bool{},
		})
		p.send(i, false, vote.Entry{})
	}
	return p
}

// send sends a bid's message to all voters.
func (p *place) send(i int, votes bool, x vote.Entry) {
	for n := range p.voters {
		p.flight = append(p.flight, message{i, n, votes, x})
	}
}

// deliver hands one message over; the reply arrives at once, or never.
func (p *place) deliver(m message, lost bool) {
	b, v := p.bids[m.bid], &p.voters[m.voter]
	if m.votes {
		if v.Accept(b.ballot, m.entry) {
			b.accepted[m.voter] = true
		}
		return
	}
	was, x, some, ok := v.Promise(b.ballot)
	if !ok || lost || 2*len(b.promised) > len(p.voters) {
		return
	}
	b.hear(m.voter, was, x, some)
	if 2*len(b.promised) > len(p.voters) {
		p.send(m.bid, true, b.entry)
	}
}

// chosen returns the entries that more than half of the voters have accepted
// with one ballot.
func (p *place) chosen() []vote.Entry {
	var l []vote.Entry
	for _, b := range p.bids {
		if 2*len(b.accepted) > len(p.voters) {
			l = append(l, b.entry)
		}
	}
	return l
}

// P3: of several bids for one place, at most one entry is chosen, however many
// ballots there are and in whichever order the messages come, whether some are
// lost, and whether some come twice.
func TestP3Agree(t *testing.T) {
	r := rand.New(rand.NewSource(33))
	several := 0
	for range 20000 {
		p := newPlace(r, 1+r.Intn(5), 1+r.Intn(5))
		loss := r.Intn(3)
		for range 150 {
			if len(p.flight) == 0 {
				break
			}
			i := r.Intn(len(p.flight))
			m := p.flight[i]
			if r.Intn(4) > 0 { // else it will come once more
				p.flight[i] = p.flight[len(p.flight)-1]
				p.flight = p.flight[:len(p.flight)-1]
			}
			if r.Intn(10) >= loss {
				p.deliver(m, r.Intn(10) < loss)
			}
		}
		l := p.chosen()
		for _, x := range l {
			if !same(x, l[0]) {
				t.Fatalf("%v and %v are chosen by %d voters", l[0], x, len(p.voters))
			}
		}
		if len(l) > 1 {
			several++
		}
	}
	if several < 500 { // else the test says little
		t.Errorf("only %d places had two ballots that chose", several)
	}
}
