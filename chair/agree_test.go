package chair_test

import (
	"math/rand"
	"testing"

	"prompter/chair"
	"prompter/vote"
)

// P3: what is chosen for one place, by the chairs and voters of one view. The
// letters between them are lost, late, and come twice.

// A letter asks a voter for its promise or its vote, or brings it to a chair.
type letter struct {
	kind   kind // promised or accepted: what is asked for, or brought
	reply  bool
	from   int
	to     int
	ballot vote.Ballot
	report report // what is voted for, or was accepted before
}

// A place has a voter and a chair for each member, and letters in flight.
type place struct {
	members []int
	voters  map[int]*vote.Voter
	chairs  map[int]*chair.Chair
	rounds  map[int]int // the last one that each chair opened
	flight  []letter
	votes   map[vote.Ballot]map[int]bool // which members accepted with a ballot
	entries map[vote.Ballot]vote.Entry   // what was put to the vote with it
	chosen  []vote.Entry                 // by the chairs
}

func newPlace(members []int) *place {
	p := &place{
		members: members, voters: map[int]*vote.Voter{}, chairs: map[int]*chair.Chair{}, rounds: map[int]int{},
		votes: map[vote.Ballot]map[int]bool{}, entries: map[vote.Ballot]vote.Entry{},
	}
	for _, n := range members {
		p.voters[n], p.chairs[n] = new(vote.Voter), chair.New(view(members...))
	}
	return p
}

// send sends a letter to all members.
func (p *place) send(l letter) {
	for _, n := range p.members {
		l.to = n
		p.flight = append(p.flight, l)
	}
}

// open opens a member's chair, with a round above all that it has opened.
func (p *place) open(r *rand.Rand, n int) {
	p.rounds[n] += 1 + r.Intn(2)
	b := of(p.rounds[n], n)
	p.chairs[n].Open(b, called(100*n+p.rounds[n]))
	p.send(letter{kind: promised, from: n, ballot: b})
}

// deliver hands one letter over, and sends what comes of it.
func (p *place) deliver(t *testing.T, l letter) {
	switch {
	case l.reply:
		p.bring(t, l)
	case l.kind == promised:
		if was, x, some, ok := p.voters[l.to].Promise(l.ballot); ok {
			p.flight = append(p.flight, letter{promised, true, l.to, l.from, l.ballot, report{was, x, some}})
		}
	case p.voters[l.to].Accept(l.ballot, l.report.x):
		if p.votes[l.ballot] == nil {
			p.votes[l.ballot] = map[int]bool{}
		}
		p.votes[l.ballot][l.to] = true
		p.flight = append(p.flight, letter{kind: accepted, reply: true, from: l.to, to: l.from, ballot: l.ballot})
	}
}

// bring hands a reply to a chair, which then puts an entry to the vote, or has
// it chosen.
func (p *place) bring(t *testing.T, l letter) {
	c := p.chairs[l.to]
	ok := act{l.kind, l.from, l.ballot, l.report}.do(c)
	x, has := c.Entry()
	if !ok {
		return
	}
	if !has || c.Ballot() != l.ballot {
		t.Fatalf("a reply with %v leads to %v, %t, of %v", l.ballot, x, has, c.Ballot())
	}
	if l.kind == promised {
		p.entries[l.ballot] = x
		p.send(letter{kind: accepted, from: l.to, ballot: l.ballot, report: report{x: x}})
		return
	}
	if 2*len(p.votes[l.ballot]) <= len(p.members) || !same(x, p.entries[l.ballot]) {
		t.Fatalf("%v is chosen by %v, of %v", x, p.votes[l.ballot], p.entries[l.ballot])
	}
	p.chosen = append(p.chosen, x)
}

// agreed returns with how many ballots more than half of the members accepted,
// and checks that what they accepted, and what chairs had chosen, is the same.
func (p *place) agreed(t *testing.T) int {
	l := append([]vote.Entry(nil), p.chosen...)
	many := 0
	for b, who := range p.votes {
		if 2*len(who) > len(p.members) {
			many++
			l = append(l, p.entries[b])
		}
	}
	for _, x := range l {
		if !same(x, l[0]) {
			t.Fatalf("%v and %v are chosen by the members %v", l[0], x, p.members)
		}
	}
	return many
}

// play lets chairs open, and letters come, for some time: of ten letters, so
// many are lost.
func (p *place) play(t *testing.T, r *rand.Rand, loss int) {
	for range 60 * len(p.members) {
		if len(p.flight) == 0 || r.Intn(20) == 0 {
			p.open(r, p.members[r.Intn(len(p.members))])
		}
		i := r.Intn(len(p.flight))
		if r.Intn(3) == 0 {
			i = len(p.flight) - 1 // the others are late
		}
		l := p.flight[i]
		if r.Intn(5) > 0 { // else it will come once more
			p.flight[i] = p.flight[len(p.flight)-1]
			p.flight = p.flight[:len(p.flight)-1]
		}
		if r.Intn(10) >= loss {
			p.deliver(t, l)
		}
	}
}

// P3: at most one entry is chosen, by however many chairs, and in whichever
// order the letters come.
func TestP3Agree(t *testing.T) {
	r := rand.New(rand.NewSource(3))
	several, again := 0, 0
	for range 3000 {
		p := newPlace(some(r, 1+r.Intn(6)))
		p.play(t, r, r.Intn(4))
		if p.agreed(t) > 1 {
			several++
		}
		if len(p.chosen) > 1 {
			again++
		}
	}
	if several < 1000 || again < 1000 { // else the test says little
		t.Errorf("only %d places had two ballots that chose, and %d two chairs", several, again)
	}
}

// P3: two chairs of three members: whichever of the voters have heard of the
// first entry, and whichever promise to the second chair, that one has the
// first entry chosen if a majority may have accepted it.
func TestP3Two(t *testing.T) {
	for accepting := range 8 {
		for asked := range 8 {
			p := newPlace([]int{0, 1, 2})
			one, two, x, y := of(1, 0), of(2, 1), called(1), called(2)
			for n := range 3 {
				if accepting>>n&1 == 1 {
					p.voters[n].Promise(one)
					p.voters[n].Accept(one, x)
				}
			}
			c, many, met := p.chairs[1], 0, false
			c.Open(two, y)
			for n := range 3 {
				if asked>>n&1 == 1 && many < 2 {
					was, x, some, _ := p.voters[n].Promise(two)
					many, met = many+1, met || some
					c.Promised(n, two, was, x, some)
				}
			}
			switch {
			case many < 2:
				want(t, c, chair.Asking, two, y)
			case met:
				want(t, c, chair.Voting, two, x)
			default:
				want(t, c, chair.Voting, two, y)
			}
		}
	}
}

// P3: a late acceptance of the first ballot does not have the second one's
// entry chosen.
func TestP3Late(t *testing.T) {
	p := newPlace([]int{0, 1, 2})
	c, one, two := p.chairs[0], of(1, 0), of(2, 0)
	c.Open(one, called(1))
	promise(c, 0, one)
	promise(c, 1, one)
	c.Open(two, called(2))
	promise(c, 1, two)
	promise(c, 2, two)
	if c.Accepted(0, one) || c.Accepted(1, one) || c.Accepted(2, two) {
		t.Error("late acceptances count")
	}
	want(t, c, chair.Voting, two, called(2))
}
