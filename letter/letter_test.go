package letter_test

import (
	"bytes"
	"math"
	"slices"
	"testing"

	"prompter/api"
	"prompter/call"
	"prompter/letter"
	"prompter/troupe"
	"prompter/vote"
)

// P17.1: the numbers of the kinds, and which kind the zero letter has.
func TestP17_1Kinds(t *testing.T) {
	kinds := []letter.Kind{letter.Ask, letter.Promise, letter.Vote, letter.Voted, letter.Told, letter.Want, letter.Asked, letter.Answer, letter.Kinds}
	for n, kind := range kinds {
		if int(kind) != n {
			t.Errorf("kind %d has the number %d", n, kind)
		}
	}
	wantLetter(t, letter.Letter{})
}

// P17.2: the example, the zero letter, and the bytes of a letter of each kind
// with words of which none is the same.
func TestP17_2Bytes(t *testing.T) {
	b, e := letter.Letter{}.Put()
	if e != api.OK || !bytes.Equal(b, make([]byte, 16)) {
		t.Errorf("the zero letter: % x, error %d", b, e)
	}
	none := full(letter.Promise)
	none.Some = false
	head, ballot := "\x01\x02\x03\x04", "\x05\x06\x07\x08\x00\x09"
	entry := "\x00\x01\x11\x12\x13\x14\x15\x16\x00\x05entry\x00"
	for b, l := range map[string]letter.Letter{
		"\x00\x00\x00\x03\x00\x0e" + head + ballot:                                              full(letter.Ask),
		"\x00\x01\x00\x03\x00\x0e" + head + ballot + "\x00\x01\x0a\x0b\x0c\x0d\x00\x0a" + entry: full(letter.Promise),
		"\x00\x01\x00\x03\x00\x0e" + head + ballot + "\x00\x00":                                 none,
		"\x00\x02\x00\x03\x00\x0e" + head + ballot + entry:                                      full(letter.Vote),
		"\x00\x03\x00\x03\x00\x0e" + head + ballot:                                              full(letter.Voted),
		"\x00\x04\x00\x03\x00\x0e" + head + entry:                                               full(letter.Told),
		"\x00\x05\x00\x03\x00\x0e" + head:                                                       full(letter.Want),
		"\x00\x06\x00\x03\x00\x0e\x1b\x1c\x1d\x1e\x1f\x20\x00\x04call":                          full(letter.Asked),
		"\x00\x07\x00\x03\x00\x0e\x21\x22\x23\x24\x17\x18\x19\x1a\x00\x03\x00\x02\x00\x05\x00\x0d\x00\x10\x25\x26\x00\x07\x61\x6e\x73wer!\x00": full(letter.Answer),
	} {
		if got, e := l.Put(); e != api.OK || string(got) != b {
			t.Errorf("Put of %v: % x, error %d, want % x", l, got, e, b)
		}
		wantLetter(t, l)
	}
}

// P17.1, P17.2: From, To and the nodes of ballots from 0 to 15, each with each
// that the letter has.
func TestP17_2Nodes(t *testing.T) {
	for _, l := range each() {
		for n := range 16 {
			for o := range 16 {
				l.From, l.To = n, o
				wantLetter(t, l)
				l.Ballot.Node, l.Was.Node = o, n
				wantLetter(t, l)
			}
		}
	}
}

// edges are numbers that a Long can tell, each of its bytes among them, and the
// first and the last ones.
func edges() []int {
	l := []int{0, 1, 255, 256, 65535, 65536, 1<<31 - 1, 1 << 31, highest - 1, highest}
	for n := range 256 {
		l = append(l, n, n<<8, n<<16, n<<24)
	}
	return l
}

// P17.1, P17.2: Place, Rounds and a view's Number from 0 to 2^32 - 1.
func TestP17_2Longs(t *testing.T) {
	for _, l := range each() {
		for _, n := range edges() {
			l.Place, l.Ballot.Round, l.Was.Round, l.View.Number = n, highest-n, n/2, highest-n/3
			wantLetter(t, l)
			l.Place, l.Ballot.Round, l.Was.Round, l.View.Number = 0, n, highest-n, n
			wantLetter(t, l)
		}
	}
}

// P17.2: a Promise that reports nothing has no Was and no Entry; one that
// reports nothing as an entry has both.
func TestP17_2Some(t *testing.T) {
	l := letter.Letter{Kind: letter.Promise}
	wantLetter(t, l)
	if b, _ := l.Put(); len(b) != 18 {
		t.Errorf("without an entry: % x", b)
	}
	l.Some = true
	wantLetter(t, l)
	if b, _ := l.Put(); len(b) != 26 {
		t.Errorf("with an entry that is nothing: % x", b)
	}
}

// P17.2: entries of each kind, with members from one to sixteen and calls up to
// the greatest length.
func TestP17_2Entries(t *testing.T) {
	entries := []vote.Entry{{}, called(call.Call{}), joined(0), joined(15)}
	for n := 1; n <= 16; n++ {
		entries = append(entries, joined(first(n)...), joined(first(16)[16-n:]...))
	}
	for _, size := range []int{0, 1, 2, 3, 255, 256, most - 1, most} {
		entries = append(entries, called(to(65535, 0, 65535, text(size))), called(to(0, 65535, 0, text(size))))
	}
	for _, l := range having("Entry") {
		for _, x := range entries {
			l.Entry = x
			wantLetter(t, l)
		}
	}
}

// P17.2: views of one to sixteen members, all of them.
func TestP17_2Views(t *testing.T) {
	l := full(letter.Answer)
	for mask := 1; mask < 1<<16; mask++ {
		l.View.Members = slices.DeleteFunc(first(16), func(n int) bool { return mask>>n&1 == 0 })
		wantLetter(t, l)
	}
}

// P17.2: calls and answers of each length, and each of their numbers.
func TestP17_2Calls(t *testing.T) {
	a, b := full(letter.Asked), full(letter.Answer)
	for size := range most + 1 {
		a.Call.Args, b.Answer.Bytes = text(size), text(size)
		wantLetter(t, a)
		wantLetter(t, b)
	}
	a, b = full(letter.Asked), full(letter.Answer)
	for n := range 1 << 16 {
		a.Call = to(uint16(n), uint16(n/3), 65535-n, nil)
		wantLetter(t, a)
		b.Id = call.Id{Troupe: 65535 - uint16(n), Number: uint16(n)}
		b.Answer = call.Answer{Err: api.Errno(n), Raised: 65535 - n}
		wantLetter(t, b)
	}
}

// anything are letters with everything set, to what may be and to what may not.
func anything() []letter.Letter {
	return []letter.Letter{
		full(0),
		{Place: 1, Ballot: of(1, 0), Was: of(0, 1), Entry: vote.Entry{Kind: 9}, View: view(1), Call: to(1, 0, 0, nil), Id: call.Id{Number: 1}, Answer: call.Answer{Raised: 1}},
		{Place: -1, Ballot: of(-1, -1), Was: of(-1, -1), Some: true, Entry: vote.Entry{Members: []int{-1}}, View: view(-1, -1), Call: to(0, 0, -1, nil), Id: call.Id{Troupe: 1}, Answer: call.Answer{Err: -1, Raised: -1}},
		{Place: highest + 1, Ballot: of(highest+1, 16), Was: of(highest+1, 16), Entry: called(to(0, 0, 1<<16, nil)), View: view(highest+1, first(17)...), Call: to(0, 0, 1<<16, nil), Answer: call.Answer{Err: 1 << 16}},
		{Place: math.MaxInt, Ballot: of(math.MaxInt, math.MaxInt), Was: of(math.MinInt, math.MinInt), Entry: joined(first(17)...), View: view(math.MaxInt, 2, 1), Call: to(0, 0, 0, text(most+1)), Answer: call.Answer{Raised: 1 << 16, Bytes: text(most + 1)}},
		{Place: math.MinInt, Ballot: of(math.MinInt, math.MinInt), Was: of(math.MaxInt, math.MaxInt), Entry: vote.Entry{Kind: 255, Call: to(1, 2, -3, text(most+1)), Members: []int{5, 4}}, View: view(math.MinInt, 16), Call: to(0, 0, math.MinInt, text(most+1)), Answer: call.Answer{Err: math.MaxInt, Raised: math.MinInt, Bytes: text(1 << 17)}},
	}
}

// P17.1: what the letter does not have may be anything, alone or together:
// Check does not see it, Only sets it to zero, and Put does not encode it.
func TestP17_1Only(t *testing.T) {
	for _, other := range anything() {
		for _, l := range each() {
			clean, all := only(l), l
			for _, name := range allParts {
				if !slices.Contains(parts(l), name) {
					wantLetter(t, with(clean, name, other))
					all = with(all, name, other)
				}
			}
			wantLetter(t, all)
			if got := all.Only(); !same(got, clean) || !same(got.Only(), clean) {
				t.Errorf("Only of %.400v: %.400v", all, got)
			}
		}
	}
}

// P17.1: Only keeps what the letter has, also what may not be, and of a kind
// that there is not Kind, From and To alone.
func TestP17_1OnlyAny(t *testing.T) {
	for _, l := range anything() {
		for kind := range 256 {
			l.Kind, l.From, l.To = letter.Kind(kind), -kind, math.MaxInt-kind
			if got := l.Only(); !same(got, only(l)) {
				t.Errorf("Only of %.400v: %.400v", l, got)
			}
			if got := l.Only(); kind > 7 && !same(got, letter.Letter{Kind: letter.Kind(kind), From: -kind, To: math.MaxInt - kind}) {
				t.Errorf("Only of kind %d: %.400v", kind, got)
			}
		}
	}
}

// changes are letters of a kind that differ from full in one thing each.
func changes(kind letter.Kind) []letter.Letter {
	var all []letter.Letter
	add := func(change func(l *letter.Letter)) {
		l := full(kind)
		change(&l)
		all = append(all, l)
	}
	for _, n := range []int{1, 1 << 16, 1 << 32, math.MinInt} {
		add(func(l *letter.Letter) { l.From ^= n })
		add(func(l *letter.Letter) { l.To ^= n })
		add(func(l *letter.Letter) { l.Place ^= n })
		add(func(l *letter.Letter) { l.Ballot.Round ^= n })
		add(func(l *letter.Letter) { l.Ballot.Node ^= n })
		add(func(l *letter.Letter) { l.Was.Round ^= n })
		add(func(l *letter.Letter) { l.Was.Node ^= n })
		add(func(l *letter.Letter) { l.Entry.Call.Proc ^= n })
		add(func(l *letter.Letter) { l.View.Number ^= n })
		add(func(l *letter.Letter) { l.View.Members[2] ^= n })
		add(func(l *letter.Letter) { l.Call.Proc ^= n })
		add(func(l *letter.Letter) { l.Answer.Err ^= api.Errno(n) })
		add(func(l *letter.Letter) { l.Answer.Raised ^= n })
	}
	add(func(l *letter.Letter) { l.Some = false })
	add(func(l *letter.Letter) { l.Entry.Kind = 0 })
	add(func(l *letter.Letter) { l.Entry.Call.Troupe++ })
	add(func(l *letter.Letter) { l.Entry.Call.Number++ })
	add(func(l *letter.Letter) { l.Entry.Call.Args[4]++ })
	add(func(l *letter.Letter) { l.Entry.Call.Args = l.Entry.Call.Args[:4] })
	add(func(l *letter.Letter) { l.Entry.Members = []int{0} })
	add(func(l *letter.Letter) { l.View.Members = l.View.Members[:2] })
	add(func(l *letter.Letter) { l.Call.Troupe++ })
	add(func(l *letter.Letter) { l.Call.Number++ })
	add(func(l *letter.Letter) { l.Call.Args[3]++ })
	add(func(l *letter.Letter) { l.Call.Args = append(l.Call.Args, 0) })
	add(func(l *letter.Letter) { l.Id.Troupe++ })
	add(func(l *letter.Letter) { l.Id.Number++ })
	add(func(l *letter.Letter) { l.Answer.Bytes[6]++ })
	add(func(l *letter.Letter) { l.Answer.Bytes = append(l.Answer.Bytes, 0) })
	return append(all, full(kind))
}

// P17.2: Same sees each field, all of its bits, and each list, also those that
// the letter does not have.
func TestP17_2Same(t *testing.T) {
	var all []letter.Letter
	for kind := range letter.Kinds + 1 {
		all = append(all, changes(kind)...)
	}
	all = append(all, changes(255)...)
	all = append(all, letter.Letter{})
	for i, a := range all {
		for j, b := range all {
			if letter.Same(a, b) != (i == j) {
				t.Errorf("Same(%v, %v): %t", a, b, i != j)
			}
		}
	}
	for kind := range letter.Kinds {
		if letter.Same(full(kind), only(full(kind))) || !letter.Same(full(kind), full(kind)) {
			t.Errorf("kind %d: what a letter does not have is not compared", kind)
		}
	}
}

// P17.1: there is no such kind, whatever else the letter has.
func TestP17_1CheckKind(t *testing.T) {
	for _, l := range append(anything(), letter.Letter{}) {
		for kind := 8; kind < 256; kind++ {
			l.Kind = letter.Kind(kind)
			wantCheck(t, l, api.ErrKind)
			l.From, l.To = -kind, kind
			wantCheck(t, l, api.ErrKind)
		}
	}
}

// wrongNodes are no nodes' numbers.
func wrongNodes() []int {
	return []int{-1, 16, 17, -16, 255, 256, 65536, 65551, 1 << 32, 1<<32 + 3, -1 << 32, math.MinInt, math.MaxInt}
}

// wrongLongs are numbers that no Long can tell.
func wrongLongs() []int {
	return []int{-1, -2, highest + 1, highest + 2, -highest, 1 << 33, 1 << 62, math.MinInt, math.MaxInt}
}

// wantParts checks, with every letter of each, that a change is an error if the
// letter has the part, and none otherwise.
func wantParts(t *testing.T, name string, e api.Errno, change func(l *letter.Letter)) {
	t.Helper()
	for _, l := range having(name) {
		change(&l)
		wantCheck(t, l, e)
	}
	for _, l := range lacking(name) {
		change(&l)
		wantLetter(t, l)
	}
}

// P17.1: nodes below 0 and above 15.
func TestP17_1CheckNodes(t *testing.T) {
	for _, n := range wrongNodes() {
		for _, l := range each() {
			l.From = n
			wantCheck(t, l, api.ErrRange)
			l.From, l.To = 0, n
			wantCheck(t, l, api.ErrRange)
			l.From = n
			wantCheck(t, l, api.ErrRange)
		}
		wantParts(t, "Ballot", api.ErrRange, func(l *letter.Letter) { l.Ballot.Node = n })
		wantParts(t, "Was", api.ErrRange, func(l *letter.Letter) { l.Was.Node = n })
	}
}

// P17.1: Place, Rounds and a view's Number below 0 and from 2^32.
func TestP17_1CheckLongs(t *testing.T) {
	for _, n := range wrongLongs() {
		wantParts(t, "Place", api.ErrRange, func(l *letter.Letter) { l.Place = n })
		wantParts(t, "Ballot", api.ErrRange, func(l *letter.Letter) { l.Ballot.Round = n })
		wantParts(t, "Was", api.ErrRange, func(l *letter.Letter) { l.Was.Round = n })
		wantParts(t, "View", api.ErrRange, func(l *letter.Letter) { l.View.Number = n })
	}
}

// wrongLists are no members, with their errors.
func wrongLists() map[api.Errno][][]int {
	return map[api.Errno][][]int{
		api.ErrMany:  {nil, {}, first(17), make([]int, 17), make([]int, 5000), append(first(16), -1)},
		api.ErrRange: {{-1}, {16}, {0, 0}, {1, 0}, {0, 16}, {0, 1, 1}, {0, 2, 1}, {math.MinInt}, {math.MaxInt}, {1 << 16}, {1 << 32}, make([]int, 16), first(17)[1:]},
	}
}

// P17.1: views and entries with members that no view may have.
func TestP17_1CheckMembers(t *testing.T) {
	for e, lists := range wrongLists() {
		for _, members := range lists {
			wantParts(t, "View", e, func(l *letter.Letter) { l.View.Members = members })
			wantParts(t, "Entry", e, func(l *letter.Letter) { l.Entry = joined(members...) })
		}
	}
	wantParts(t, "View", api.ErrMany, func(l *letter.Letter) { l.View = troupe.View{} })
}

// P17.1: entries of no kind, or with what their kind does not have.
func TestP17_1CheckEntries(t *testing.T) {
	for kind := 3; kind < 256; kind++ {
		wantParts(t, "Entry", api.ErrKind, func(l *letter.Letter) { l.Entry.Kind = vote.Kind(kind) })
	}
	for _, x := range []vote.Entry{{Call: to(1, 0, 0, nil)}, {Members: []int{1}}, {Kind: vote.Called, Members: []int{1}}, {Kind: vote.Joined, Call: to(0, 0, 0, text(1)), Members: []int{1}}} {
		wantParts(t, "Entry", api.ErrForm, func(l *letter.Letter) { l.Entry = x })
	}
}

// P17.1: calls and answers that may not be.
func TestP17_1CheckCalls(t *testing.T) {
	for _, n := range []int{-1, 1 << 16, 1<<16 + 1, 1 << 32, math.MinInt, math.MaxInt} {
		wantParts(t, "Call", api.ErrRange, func(l *letter.Letter) { l.Call.Proc = n })
		wantParts(t, "Entry", api.ErrRange, func(l *letter.Letter) { l.Entry.Call.Proc = n })
		wantParts(t, "Answer", api.ErrRange, func(l *letter.Letter) { l.Answer.Err = api.Errno(n) })
		wantParts(t, "Answer", api.ErrRange, func(l *letter.Letter) { l.Answer.Raised = n })
	}
	for _, size := range []int{most + 1, most + 2, 1 << 16, 1 << 20} {
		wantParts(t, "Call", api.ErrSize, func(l *letter.Letter) { l.Call.Args = text(size) })
		wantParts(t, "Entry", api.ErrSize, func(l *letter.Letter) { l.Entry.Call.Args = text(size) })
		wantParts(t, "Answer", api.ErrSize, func(l *letter.Letter) { l.Answer.Bytes = text(size) })
	}
}
