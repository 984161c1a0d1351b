package chair_test

import (
	"math"
	"math/rand"
	"slices"
	"testing"

	"prompter/chair"
	"prompter/vote"
)

// A second proposer, written from the chapter: it keeps what was recorded since
// Open, and works everything out from that.

// An act is an Open, a promise or an acceptance.
type act struct {
	kind   kind
	n      int
	ballot vote.Ballot
	report report // of an Open, x is its own entry
}

type kind int

const (
	open kind = iota
	promised
	accepted
	kinds
)

// A model has the members, the Open, and the acts recorded behind it.
type model struct {
	members []int
	opened  []act
	acts    []act
}

// of returns the recorded acts of a kind.
func (m model) of(k kind) []act {
	return slices.DeleteFunc(slices.Clone(m.acts), func(a act) bool { return a.kind != k })
}

// most reports whether the nodes of the acts are more than half of the members.
func (m model) most(l []act) bool {
	many := 0
	for _, n := range m.members {
		if slices.ContainsFunc(l, func(a act) bool { return a.n == n }) {
			many++
		}
	}
	return many > len(m.members)-many
}

// phase is how far the recorded acts lead.
func (m model) phase() chair.Phase {
	switch {
	case len(m.opened) == 0:
		return chair.Idle
	case !m.most(m.of(promised)):
		return chair.Asking
	case !m.most(m.of(accepted)):
		return chair.Voting
	}
	return chair.Chosen
}

// entry is the best one of all promises, or the chair's own.
func (m model) entry() vote.Entry {
	if len(m.opened) == 0 {
		return vote.Entry{}
	}
	var l []report
	for _, a := range m.of(promised) {
		l = append(l, a.report)
	}
	return best(l, m.opened[0].report.x)
}

// ballot is that of the last Open, or 0, 0.
func (m model) ballot() vote.Ballot {
	if len(m.opened) == 0 {
		return vote.Ballot{}
	}
	return m.opened[0].ballot
}

// told returns the model after an act, and whether the act has led it to the
// next phase. (It shares nothing with m that changes.)
func (m model) told(a act) (model, bool) {
	if a.kind == open {
		return model{members: m.members, opened: []act{a}}, false
	}
	again := slices.ContainsFunc(m.of(a.kind), func(o act) bool { return o.n == a.n })
	due := a.kind == promised && m.phase() == chair.Asking || a.kind == accepted && m.phase() == chair.Voting
	if !due || a.ballot != m.ballot() || !slices.Contains(m.members, a.n) || again {
		return m, false
	}
	next := model{m.members, m.opened, append(slices.Clone(m.acts), a)}
	return next, next.phase() != m.phase()
}

// do makes an act with a chair.
func (a act) do(c *chair.Chair) bool {
	switch a.kind {
	case open:
		c.Open(a.ballot, a.report.x)
		return false
	case promised:
		return c.Promised(a.n, a.ballot, a.report.was, a.report.x, a.report.some)
	}
	return c.Accepted(a.n, a.ballot)
}

// wantActs makes all acts with a new chair, and compares each result, and what
// the chair is then, with the model.
func wantActs(t *testing.T, members []int, acts []act) {
	t.Helper()
	c, m := chair.New(view(members...)), model{members: members}
	for i, a := range acts {
		next, ok := m.told(a)
		if a.do(c) != ok {
			t.Fatalf("members %v, act %d of %v: not %t", members, i+1, acts[:i+1], ok)
		}
		m = next
		want(t, c, m.phase(), m.ballot(), m.entry())
	}
}

// everyAct returns acts of nodes with two ballots, and every report.
func everyAct(nodes []int, reports []report) []act {
	var l []act
	for i, b := range []vote.Ballot{of(2, 0), of(2, 1)} {
		l = append(l, act{open, 0, b, report{x: called(100 + i)}})
		for _, n := range nodes {
			l = append(l, act{kind: accepted, n: n, ballot: b})
			for _, a := range reports {
				l = append(l, act{promised, n, b, a})
			}
		}
	}
	return l
}

// wantRows compares a chair and a model after each of all rows of so many acts
// that start with an Open. A chair cannot be copied, so it does each row anew;
// it is looked at only at a row's end, since the row's beginnings are rows, too.
func wantRows(t *testing.T, members []int, acts []act, many int) {
	t.Helper()
	var grow func(row []act, m model, ok bool)
	grow = func(row []act, m model, ok bool) {
		c, last := chair.New(view(members...)), false
		for _, a := range row {
			last = a.do(c)
		}
		if last != ok {
			t.Fatalf("members %v, the last of %v: not %t", members, row, ok)
		}
		want(t, c, m.phase(), m.ballot(), m.entry())
		if len(row) == many {
			return
		}
		for _, a := range acts {
			next, ok := m.told(a)
			grow(append(row[:len(row):len(row)], a), next, ok)
		}
	}
	m, _ := model{members: members}.told(acts[0])
	grow(acts[:1], m, false)
}

// P16.1: all rows of acts behind an Open: of one member, two and three, with
// another node beside them.
func TestP16_1All(t *testing.T) {
	none, low, high := report{}, report{of(1, 0), called(1), true}, report{of(1, 1), called(2), true}
	wantRows(t, []int{2}, everyAct([]int{2, 3}, []report{none, low}), 6)
	wantRows(t, []int{0, 2}, everyAct([]int{0, 2, 1}, []report{none, low, high}), 4)
	wantRows(t, []int{0, 1, 2}, everyAct([]int{0, 1, 2}, []report{none, low}), 5)
}

// randomAct returns an act, mostly of a member and with the ballot that is
// asked with.
func randomAct(r *rand.Rand, members []int, b vote.Ballot) act {
	a := act{kind: kind(1 + r.Intn(2)), n: r.Intn(18) - 1, ballot: b}
	if r.Intn(8) > 0 {
		a.n = members[r.Intn(len(members))]
	}
	if r.Intn(len(members)*6) == 0 {
		a.kind = open
	}
	if a.kind == open || r.Intn(10) == 0 {
		a.ballot = of(r.Intn(3), r.Intn(3))
	}
	if r.Intn(200) == 0 {
		a.ballot = of(math.MaxInt-r.Intn(2), -r.Intn(2))
	}
	a.report = report{of(r.Intn(3)-1, r.Intn(3)), called(r.Intn(1000)), r.Intn(2) == 0}
	return a
}

// P16.1: long random rows of acts, with views of one to sixteen members.
func TestP16_1Random(t *testing.T) {
	r := rand.New(rand.NewSource(163))
	chosen, opened := 0, map[chair.Phase]int{}
	for range 3000 {
		members := some(r, 1+r.Intn(16))
		m, acts := model{members: members}, []act(nil)
		for range 20 + 8*len(members) {
			a := randomAct(r, members, m.ballot())
			before := m.phase()
			m, _ = m.told(a)
			if acts = append(acts, a); a.kind == open {
				opened[before]++
			}
			if before == chair.Voting && m.phase() == chair.Chosen {
				chosen++
			}
		}
		wantActs(t, members, acts)
	}
	if chosen < 1000 || min(opened[chair.Idle], opened[chair.Asking], opened[chair.Voting], opened[chair.Chosen]) < 500 {
		t.Errorf("%d were chosen; it opened in phases %v", chosen, opened) // else the test says little
	}
}
