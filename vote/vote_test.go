package vote_test

import (
	"bytes"
	"math"
	"slices"
	"testing"

	"prompter/api"
	"prompter/call"
	"prompter/vote"
	"prompter/wire"
)

const most = 4000 // bytes of a call's arguments

// text returns bytes of which no two neighbours are the same.
func text(size int) []byte {
	b := make([]byte, size)
	for i := range b {
		b[i] = byte(i%251 + 1)
	}
	return b
}

// of returns a ballot.
func of(round, node int) vote.Ballot {
	return vote.Ballot{Round: round, Node: node}
}

// to returns a call.
func to(troupe, number uint16, proc int, args []byte) call.Call {
	return call.Call{Id: call.Id{Troupe: troupe, Number: number}, Proc: proc, Args: args}
}

// called returns the entry of a call.
func called(c call.Call) vote.Entry {
	return vote.Entry{Kind: vote.Called, Call: c}
}

// joined returns the entry of members.
func joined(members ...int) vote.Entry {
	return vote.Entry{Kind: vote.Joined, Members: members}
}

// first returns the nodes below n.
func first(n int) []int {
	l := make([]int, n)
	for i := range l {
		l[i] = i
	}
	return l
}

// list returns the members of a mask, one bit for each.
func list(mask int) []int {
	var l []int
	for n := range 16 {
		if mask>>n&1 == 1 {
			l = append(l, n)
		}
	}
	return l
}

// words encodes numbers, the higher byte of each first.
func words(numbers ...int) []byte {
	var b []byte
	for _, n := range numbers {
		b = append(b, byte(n>>8), byte(n))
	}
	return b
}

// encoded is what Put makes of an entry, by chapters 12 and 15.
func encoded(x vote.Entry) []byte {
	b := words(int(x.Kind))
	switch x.Kind {
	case 1:
		c := x.Call
		b = append(b, words(int(c.Id.Troupe), int(c.Id.Number), c.Proc, len(c.Args))...)
		b = append(b, c.Args...)
		if len(c.Args)%2 == 1 {
			b = append(b, 0)
		}
	case 2:
		b = append(b, words(len(x.Members))...)
		b = append(b, words(x.Members...)...)
	}
	return b
}

// same compares all of two entries without help of packages vote and call.
func same(a, b vote.Entry) bool {
	return a.Kind == b.Kind && a.Call.Id == b.Call.Id && a.Call.Proc == b.Call.Proc && string(a.Call.Args) == string(b.Call.Args) && slices.Equal(a.Members, b.Members)
}

// zero reports whether an entry is the zero one.
func zero(x vote.Entry) bool {
	return same(x, vote.Entry{}) && len(x.Call.Args)+len(x.Members) == 0
}

// wantEntry checks all of a valid entry: Check, Put, and Take from behind and
// before other words.
func wantEntry(t *testing.T, x vote.Entry) {
	t.Helper()
	if e := x.Check(); e != api.OK {
		t.Errorf("Check of %.100v: error %d", x, e)
	}
	var w wire.Writer
	w.Word(0x1234)
	x.Put(&w)
	w.Word(0x5678)
	all := slices.Concat([]byte{0x12, 0x34}, encoded(x), []byte{0x56, 0x78})
	if !bytes.Equal(w.Bytes(), all) {
		t.Fatalf("Put of %.100v: % x, want % x", x, w.Bytes(), all)
	}
	r := wire.Read(all)
	r.Word()
	got := vote.Take(r)
	if !same(got, x) || !vote.Same(got, x) || !vote.Same(x, got) {
		t.Errorf("Take of %.100v: %.100v", x, got)
	}
	if r.Err() != api.OK || r.Left() != 2 || r.Word() != 0x5678 || r.End() != api.OK {
		t.Errorf("Take of %.100v: the reader has error %d, %d bytes left", x, r.Err(), r.Left())
	}
}

// wantCheck checks the error of an entry that is not valid, and that Put writes
// nothing of it.
func wantCheck(t *testing.T, x vote.Entry, e api.Errno) {
	t.Helper()
	if got := x.Check(); got != e {
		t.Errorf("Check of %.100v: error %d, want %d", x, got, e)
	}
	var w wire.Writer
	w.Word(7)
	x.Put(&w)
	if !bytes.Equal(w.Bytes(), []byte{0, 7}) {
		t.Errorf("Put of %.100v, which has error %d: % .40x", x, e, w.Bytes())
	}
}

// P15.1: ballots, from the lowest to the highest: equal ones, and ones that
// differ in Round alone, in Node alone, or in both.
func TestP15_1Less(t *testing.T) {
	var ballots []vote.Ballot
	for _, round := range []int{math.MinInt, -1 << 32, -1, 0, 1, 2, 1 << 32, 1<<32 + 1, math.MaxInt} {
		for _, node := range []int{math.MinInt, -1, 0, 1, 2, 15, 1 << 32, math.MaxInt} {
			ballots = append(ballots, of(round, node))
		}
	}
	for i, b := range ballots {
		for j, o := range ballots {
			if b.Less(o) != (i < j) {
				t.Errorf("%v below %v: %t", b, o, i >= j)
			}
		}
	}
}

// P15.1: the numbers of the kinds, and which kind the zero entry has.
func TestP15_1Kinds(t *testing.T) {
	if vote.Nothing != 0 || vote.Called != 1 || vote.Joined != 2 || vote.Kinds != 3 {
		t.Error("the kinds' numbers")
	}
	wantEntry(t, vote.Entry{})
	if !zero(vote.Entry{Kind: vote.Nothing}) {
		t.Error("the zero entry is not nothing")
	}
}

// P15.1: the bytes of some entries.
func TestP15_1Bytes(t *testing.T) {
	for b, x := range map[string]vote.Entry{
		"\x00\x00": {},
		"\x00\x01\x00\x00\x00\x00\x00\x00\x00\x00":                 called(call.Call{}),
		"\x00\x01\x00\x02\x00\x03\x00\x04\x00\x00":                 called(to(2, 3, 4, nil)),
		"\x00\x01\x01\x02\x03\x04\x05\x06\x00\x03\x61\x62\x63\x00": called(to(0x102, 0x304, 0x506, []byte("abc"))),
		"\x00\x01\xff\xff\xff\xfe\xff\xfd\x00\x02\x00\xff":         called(to(65535, 65534, 65533, []byte{0, 255})),
		"\x00\x02\x00\x01\x00\x00":                                 joined(0),
		"\x00\x02\x00\x01\x00\x0f":                                 joined(15),
		"\x00\x02\x00\x03\x00\x00\x00\x02\x00\x0f":                 joined(0, 2, 15),
		"\x00\x02\x00\x02\x00\x01\x00\x02":                         joined(1, 2),
	} {
		var w wire.Writer
		x.Put(&w)
		if string(w.Bytes()) != b {
			t.Errorf("%v: % x, want % x", x, w.Bytes(), b)
		}
		wantEntry(t, x)
	}
}

// P15.1: calls at their limits.
func TestP15_1Called(t *testing.T) {
	for n := range 1 << 16 {
		wantEntry(t, called(to(uint16(n), 1, 2, nil)))
		wantEntry(t, called(to(1, uint16(n), 2, nil)))
		wantEntry(t, called(to(1, 2, n, []byte{3})))
	}
	for _, size := range []int{0, 1, 2, 3, 255, 256, 257, 1000, most - 3, most - 2, most - 1, most} {
		wantEntry(t, called(to(0, 0, 0, text(size))))
		wantEntry(t, called(to(65535, 65535, 65535, text(size))))
	}
}

// P15.1: all lists that may be members.
func TestP15_1Joined(t *testing.T) {
	for mask := 1; mask < 1<<16; mask++ {
		wantEntry(t, joined(list(mask)...))
	}
	for n := 1; n <= 16; n++ {
		wantEntry(t, joined(first(n)...))
	}
}

// P15.1: Same sees each field, all of its bits, each byte and each member, also
// those that the kind does not have.
func TestP15_1Same(t *testing.T) {
	entries := []vote.Entry{
		{}, called(call.Call{}), joined(), {Kind: vote.Kinds}, {Kind: 255},
		called(to(1, 2, 3, text(3))), called(to(257, 2, 3, text(3))), called(to(1, 258, 3, text(3))), called(to(2, 1, 3, text(3))),
		called(to(1, 2, 4, text(3))), called(to(1, 2, 3+1<<16, text(3))), called(to(1, 2, 3+1<<32, text(3))), called(to(1, 2, -3, text(3))),
		called(to(1, 2, 3, nil)), called(to(1, 2, 3, text(2))), called(to(1, 2, 3, text(4))), called(to(1, 2, 3, []byte{1, 2, 131})), called(to(1, 2, 3, []byte{2, 2, 3})),
		joined(0), joined(1), joined(0, 1), joined(1, 0), joined(0, 1, 2), joined(0, 3, 2), joined(0, 1, 3), joined(1 << 32), joined(1<<32 + 1), joined(-1),
		{Call: to(1, 2, 3, nil)}, {Call: to(1, 2, 4, nil)}, {Members: []int{0}}, {Members: []int{1}},
		{Kind: vote.Called, Members: []int{0}}, {Kind: vote.Called, Members: []int{1}}, {Kind: vote.Joined, Call: to(1, 2, 3, nil)}, {Kind: vote.Joined, Call: to(1, 2, 4, nil)},
		{Kind: vote.Joined, Call: to(1, 2, 3, nil), Members: []int{0}}, {Kind: vote.Joined, Call: to(1, 2, 3, text(1)), Members: []int{0}},
		called(to(1, 2, 3, text(1<<20))), joined(first(5000)...),
	}
	for i, a := range entries {
		for j, b := range entries {
			b.Call.Args, b.Members = slices.Clone(b.Call.Args), slices.Clone(b.Members)
			if vote.Same(a, b) != (i == j) {
				t.Errorf("Same(%.100v, %.100v): %t", a, b, i != j)
			}
		}
	}
}

// P15.1: Same compares all members and all bytes, up to the last ones.
func TestP15_1SameAll(t *testing.T) {
	for at := range most {
		b := text(most)
		b[at] ^= 128
		if vote.Same(called(to(1, 2, 3, text(most))), called(to(1, 2, 3, b))) {
			t.Fatalf("byte %d is not compared", at)
		}
	}
	for at := range 16 {
		l := first(16)
		l[at] = 99
		if vote.Same(joined(first(16)...), joined(l...)) || vote.Same(joined(l...), joined(first(16)...)) {
			t.Errorf("member %d is not compared", at)
		}
	}
}

// wrongLists are no members, with their errors.
func wrongLists() map[api.Errno][][]int {
	return map[api.Errno][][]int{
		api.ErrMany:  {nil, {}, first(17), make([]int, 17), make([]int, 5000), append(first(16), -1)},
		api.ErrRange: {{-1}, {16}, {0, 0}, {1, 0}, {0, 16}, {0, 1, 1}, {0, 2, 1}, {math.MinInt}, {math.MaxInt}, {1 << 16}, {1 << 32}, make([]int, 16), first(17)[1:]},
	}
}

// wrongCalls are no calls, with their errors.
func wrongCalls() map[api.Errno][]call.Call {
	return map[api.Errno][]call.Call{
		api.ErrRange: {to(1, 2, -1, nil), to(1, 2, 1<<16, nil), to(1, 2, 1<<32, nil), to(1, 2, math.MinInt, text(most+1)), to(1, 2, math.MaxInt, text(4))},
		api.ErrSize:  {to(1, 2, 3, text(most+1)), to(0, 0, 65535, text(most+2)), to(1, 2, 3, text(1<<16)), to(1, 2, 3, text(1<<20))},
	}
}

// P15.1: there is no such kind, whatever else the entry has.
func TestP15_1CheckKind(t *testing.T) {
	for kind := 3; kind < 256; kind++ {
		x := vote.Entry{Kind: vote.Kind(kind)}
		wantCheck(t, x, api.ErrKind)
		x.Call = to(1, 2, -1, text(most+1))
		wantCheck(t, x, api.ErrKind)
		x.Members = []int{3, 2}
		wantCheck(t, x, api.ErrKind)
		x.Call = call.Call{}
		wantCheck(t, x, api.ErrKind)
		x.Members = []int{2, 3}
		wantCheck(t, x, api.ErrKind)
	}
}

// P15.1: a Call where the kind has none, each field of it alone, and Members
// where the kind has none; whether they would be valid or not.
func TestP15_1CheckForm(t *testing.T) {
	calls := []call.Call{to(1, 0, 0, nil), to(0, 1, 0, nil), to(0, 0, 1, nil), to(0, 0, 0, []byte{0}), to(0, 0, -1, nil), to(0, 0, 1<<32, nil), to(0, 0, 0, make([]byte, most+1))}
	for _, c := range calls {
		wantCheck(t, vote.Entry{Call: c}, api.ErrForm)
		for _, members := range [][]int{nil, {}, {0}, {0, 1, 15}, {3, 2}, {-1}, first(16), first(17)} {
			wantCheck(t, vote.Entry{Call: c, Members: members}, api.ErrForm)
			wantCheck(t, vote.Entry{Kind: vote.Joined, Call: c, Members: members}, api.ErrForm)
			if len(members) > 0 {
				wantCheck(t, vote.Entry{Members: members}, api.ErrForm)
				wantCheck(t, vote.Entry{Kind: vote.Called, Call: c, Members: members}, api.ErrForm)
				wantCheck(t, vote.Entry{Kind: vote.Called, Members: members}, api.ErrForm)
			}
		}
	}
}

// P15.1: the errors of a call and of members.
func TestP15_1CheckParts(t *testing.T) {
	for e, calls := range wrongCalls() {
		for _, c := range calls {
			wantCheck(t, called(c), e)
			wantCheck(t, vote.Entry{Kind: vote.Called, Call: c, Members: []int{0}}, api.ErrForm)
			wantCheck(t, vote.Entry{Kind: vote.Joined, Call: c, Members: []int{0}}, api.ErrForm)
			wantCheck(t, vote.Entry{Call: c}, api.ErrForm)
		}
	}
	for e, lists := range wrongLists() {
		for _, l := range lists {
			wantCheck(t, joined(l...), e)
			wantCheck(t, vote.Entry{Kind: vote.Joined, Call: to(0, 0, 1, nil), Members: l}, api.ErrForm)
		}
	}
}
