package letter_test

import (
	"bytes"
	"slices"
	"strings"
	"testing"

	"prompter/api"
	"prompter/call"
	"prompter/letter"
	"prompter/troupe"
	"prompter/vote"
)

const (
	most    = 4000      // bytes of a call's arguments, or of an answer
	highest = 1<<32 - 1 // that a Long can tell
)

// text returns bytes of which no two neighbours are the same.
func text(size int) []byte {
	b := make([]byte, size)
	for i := range b {
		b[i] = byte(i%251 + 1)
	}
	return b
}

// of returns a ballot.
func of(round, node int) vote.Ballot {
	return vote.Ballot{Round: round, Node: node}
}

// to returns a call.
func to(troupe, number uint16, proc int, args []byte) call.Call {
	return call.Call{Id: call.Id{Troupe: troupe, Number: number}, Proc: proc, Args: args}
}

// called returns the entry of a call.
func called(c call.Call) vote.Entry {
	return vote.Entry{Kind: vote.Called, Call: c}
}

// joined returns the entry of members.
func joined(members ...int) vote.Entry {
	return vote.Entry{Kind: vote.Joined, Members: members}
}

// view returns a view.
func view(number int, members ...int) troupe.View {
	return troupe.View{Number: number, Members: members}
}

// first returns the nodes below n.
func first(n int) []int {
	l := make([]int, n)
	for i := range l {
		l[i] = i
	}
	return l
}

// parts tells, by the chapter, what letters of a kind have beside Kind, From
// and To, in the order of their encoding.
func parts(l letter.Letter) []string {
	switch l.Kind {
	case 0, 3:
		return []string{"Place", "Ballot"}
	case 1:
		if !l.Some {
			return []string{"Place", "Ballot", "Some"}
		}
		return []string{"Place", "Ballot", "Some", "Was", "Entry"}
	case 2:
		return []string{"Place", "Ballot", "Entry"}
	case 4:
		return []string{"Place", "Entry"}
	case 5:
		return []string{"Place"}
	case 6:
		return []string{"Call"}
	case 7:
		return []string{"Id", "View", "Answer"}
	}
	return nil
}

// allParts are the names of what a letter may have.
var allParts = []string{"Place", "Ballot", "Was", "Some", "Entry", "View", "Call", "Id", "Answer"}

// with returns l with its part of that name as in other.
func with(l letter.Letter, name string, other letter.Letter) letter.Letter {
	switch name {
	case "Place":
		l.Place = other.Place
	case "Ballot":
		l.Ballot = other.Ballot
	case "Was":
		l.Was = other.Was
	case "Some":
		l.Some = other.Some
	case "Entry":
		l.Entry = other.Entry
	case "View":
		l.View = other.View
	case "Call":
		l.Call = other.Call
	case "Id":
		l.Id = other.Id
	case "Answer":
		l.Answer = other.Answer
	}
	return l
}

// only returns, by the chapter, the letter with what it has.
func only(l letter.Letter) letter.Letter {
	o := letter.Letter{Kind: l.Kind, From: l.From, To: l.To}
	for _, name := range parts(l) {
		o = with(o, name, l)
	}
	return o
}

// words encodes numbers, the higher byte of each first.
func words(numbers ...int) []byte {
	var b []byte
	for _, n := range numbers {
		b = append(b, byte(n>>8), byte(n))
	}
	return b
}

// long encodes a number in four bytes.
func long(n int) []byte {
	return words(n>>16, n)
}

// textBytes is a Text by chapter 1.
func textBytes(s []byte) []byte {
	b := append(words(len(s)), s...)
	return append(b, make([]byte, len(s)%2)...)
}

// callBytes is a call by chapter 12.
func callBytes(c call.Call) []byte {
	return append(words(int(c.Id.Troupe), int(c.Id.Number), c.Proc), textBytes(c.Args)...)
}

// memberBytes is the number of members and each of them.
func memberBytes(l []int) []byte {
	return append(words(len(l)), words(l...)...)
}

// entryBytes is an entry by chapter 15.
func entryBytes(x vote.Entry) []byte {
	b := words(int(x.Kind))
	switch x.Kind {
	case 1:
		b = append(b, callBytes(x.Call)...)
	case 2:
		b = append(b, memberBytes(x.Members)...)
	}
	return b
}

// part is the encoding of what a letter has under a name.
func part(l letter.Letter, name string) []byte {
	switch name {
	case "Place":
		return long(l.Place)
	case "Ballot":
		return append(long(l.Ballot.Round), words(l.Ballot.Node)...)
	case "Was":
		return append(long(l.Was.Round), words(l.Was.Node)...)
	case "Some":
		if l.Some {
			return words(1)
		}
		return words(0)
	case "Entry":
		return entryBytes(l.Entry)
	case "View":
		return append(long(l.View.Number), memberBytes(l.View.Members)...)
	case "Call":
		return callBytes(l.Call)
	case "Id":
		return words(int(l.Id.Troupe), int(l.Id.Number))
	}
	return append(words(int(l.Answer.Err), l.Answer.Raised), textBytes(l.Answer.Bytes)...)
}

// encoded is what Put makes of a valid letter, by the chapter.
func encoded(l letter.Letter) []byte {
	b := words(int(l.Kind), l.From, l.To)
	for _, name := range parts(l) {
		b = append(b, part(l, name)...)
	}
	return b
}

// sameCall compares each field of two calls.
func sameCall(a, b call.Call) bool {
	return a.Id == b.Id && a.Proc == b.Proc && string(a.Args) == string(b.Args)
}

// samePart compares what two letters have under a name, without help of the
// project's packages.
func samePart(a, b letter.Letter, name string) bool {
	switch name {
	case "Place":
		return a.Place == b.Place
	case "Ballot":
		return a.Ballot == b.Ballot
	case "Was":
		return a.Was == b.Was
	case "Some":
		return a.Some == b.Some
	case "Entry":
		return a.Entry.Kind == b.Entry.Kind && sameCall(a.Entry.Call, b.Entry.Call) && slices.Equal(a.Entry.Members, b.Entry.Members)
	case "View":
		return a.View.Number == b.View.Number && slices.Equal(a.View.Members, b.View.Members)
	case "Call":
		return sameCall(a.Call, b.Call)
	case "Id":
		return a.Id == b.Id
	}
	return a.Answer.Err == b.Answer.Err && a.Answer.Raised == b.Answer.Raised && string(a.Answer.Bytes) == string(b.Answer.Bytes)
}

// same compares all of two letters.
func same(a, b letter.Letter) bool {
	for _, name := range allParts {
		if !samePart(a, b, name) {
			return false
		}
	}
	return a.Kind == b.Kind && a.From == b.From && a.To == b.To
}

// zero reports whether a letter is the zero one.
func zero(l letter.Letter) bool {
	return same(l, letter.Letter{})
}

// full returns a valid letter of a kind, in which also everything is set that
// it does not have.
func full(kind letter.Kind) letter.Letter {
	return letter.Letter{
		Kind: kind, From: 3, To: 14, Place: 0x1020304, Ballot: of(0x5060708, 9), Was: of(0xa0b0c0d, 10), Some: true,
		Entry: called(to(0x1112, 0x1314, 0x1516, []byte("entry"))), View: view(0x1718191a, 2, 5, 13),
		Call: to(0x1b1c, 0x1d1e, 0x1f20, []byte("call")), Id: call.Id{Troupe: 0x2122, Number: 0x2324},
		Answer: call.Answer{Err: api.ErrRaised, Raised: 0x2526, Bytes: []byte("answer!")},
	}
}

// each returns valid letters: one of each kind, and a Promise of each sort.
func each() []letter.Letter {
	var l []letter.Letter
	for kind := range letter.Kinds {
		l = append(l, full(kind))
	}
	none := full(letter.Promise)
	none.Some = false
	return append(l, none)
}

// having returns those of each that have a part.
func having(name string) []letter.Letter {
	return slices.DeleteFunc(each(), func(l letter.Letter) bool { return !slices.Contains(parts(l), name) })
}

// lacking returns those of each that do not have a part.
func lacking(name string) []letter.Letter {
	return slices.DeleteFunc(each(), func(l letter.Letter) bool { return slices.Contains(parts(l), name) })
}

// wantLetter checks all of a valid letter: Check, Only, Put, and Take of what
// Put makes.
func wantLetter(t *testing.T, l letter.Letter) {
	t.Helper()
	wanted := only(l)
	if got := l.Only(); !same(got, wanted) {
		t.Fatalf("Only of %.400v: %.400v, want %.400v", l, got, wanted)
	}
	if e := l.Check(); e != api.OK {
		t.Fatalf("Check of %.400v: error %d", l, e)
	}
	b, e := l.Put()
	if e != api.OK || !bytes.Equal(b, encoded(l)) {
		t.Fatalf("Put of %.400v: % .100x, error %d, want % .100x", l, b, e, encoded(l))
	}
	got, e := letter.Take(b)
	if e != api.OK || !same(got, wanted) || !letter.Same(got, wanted) {
		t.Fatalf("Take of %.400v: %.400v, error %d, want %.400v", l, got, e, wanted)
	}
}

// wantCheck checks the error of a letter that is not valid, that Put returns it
// without bytes, and that Only leaves what is wrong.
func wantCheck(t *testing.T, l letter.Letter, e api.Errno) {
	t.Helper()
	if got := l.Check(); got != e {
		t.Errorf("Check of %.400v: error %d, want %d", l, got, e)
	}
	if b, got := l.Put(); got != e || len(b) > 0 {
		t.Errorf("Put of %.400v: % .40x, error %d, want %d", l, b, got, e)
	}
	if got := l.Only(); !same(got, only(l)) || got.Check() != e {
		t.Errorf("Only of %.400v: %.400v, with error %d, want %d", l, got, got.Check(), e)
	}
}

// wantNoLetter checks that nothing is taken of b, with one of some errors, or
// with any if there are none.
func wantNoLetter(t *testing.T, b []byte, some ...api.Errno) {
	t.Helper()
	l, e := letter.Take(b)
	if !zero(l) || e == api.OK || len(some) > 0 && !slices.Contains(some, e) {
		t.Errorf("Take(% .100x) of %d bytes: %.400v, error %d, want %d", b, len(b), l, e, some)
	}
}

// The model's own parts: each name that a kind has is one of all, and together
// the kinds have all of them.
func TestModel(t *testing.T) {
	var had []string
	for _, l := range each() {
		for _, name := range parts(l) {
			if !slices.Contains(allParts, name) {
				t.Errorf("kind %d has %s", l.Kind, name)
			}
			had = append(had, name)
		}
	}
	slices.Sort(had)
	if got := slices.Compact(had); len(got) != len(allParts) {
		t.Errorf("the kinds have %s, of %s", strings.Join(got, " "), strings.Join(allParts, " "))
	}
}
