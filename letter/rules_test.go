package letter_test

import (
	"bytes"
	"math"
	"math/rand"
	"slices"
	"testing"

	"prompter/api"
	"prompter/call"
	"prompter/letter"
	"prompter/vote"
)

// anyNumber returns a number of any size.
func anyNumber(r *rand.Rand) int {
	return int(r.Uint64()) >> r.Intn(64)
}

// anyLetter returns a letter in which some things may not be.
func anyLetter(r *rand.Rand) letter.Letter {
	l := randomLetter(r)
	for _, n := range []*int{
		&l.From, &l.To, &l.Place, &l.Ballot.Round, &l.Ballot.Node, &l.Was.Round, &l.Was.Node, &l.Entry.Call.Proc,
		&l.View.Number, &l.View.Members[0], &l.Call.Proc, (*int)(&l.Answer.Err), &l.Answer.Raised,
	} {
		if r.Intn(13) == 0 {
			*n = anyNumber(r)
		}
	}
	switch r.Intn(8) {
	case 0:
		l.Kind = letter.Kind(r.Intn(256) >> r.Intn(8))
	case 1:
		l.Entry.Kind = vote.Kind(r.Intn(256) >> r.Intn(8))
	case 2:
		l.Entry.Members = append(l.Entry.Members, anyNumber(r))
	case 3:
		l.View.Members = append(l.View.Members, first(r.Intn(20))...)
	case 4:
		l.Call.Args = text(most + r.Intn(3))
	case 5:
		l.Answer.Bytes = text(most + r.Intn(3))
	}
	return l
}

// membersError is chapter 14's error of members.
func membersError(members []int) api.Errno {
	if len(members) < 1 || len(members) > 16 {
		return api.ErrMany
	}
	for i, n := range members {
		if n < 0 || n > 15 || i > 0 && n <= members[i-1] {
			return api.ErrRange
		}
	}
	return api.OK
}

// textError is chapter 12's error of Words and a Text.
func textError(b []byte, numbers ...int) api.Errno {
	for _, n := range numbers {
		if n < 0 || n > 65535 {
			return api.ErrRange
		}
	}
	if len(b) > most {
		return api.ErrSize
	}
	return api.OK
}

// entryError is chapter 15's error of an entry.
func entryError(x vote.Entry) api.Errno {
	hasCall := x.Call.Id != call.Id{} || x.Call.Proc != 0 || len(x.Call.Args) > 0
	switch {
	case x.Kind > 2:
		return api.ErrKind
	case hasCall && x.Kind != 1, len(x.Members) > 0 && x.Kind != 2:
		return api.ErrForm
	case x.Kind == 1:
		return textError(x.Call.Args, x.Call.Proc)
	case x.Kind == 2:
		return membersError(x.Members)
	}
	return api.OK
}

// checked is a second Check by the chapter.
func checked(l letter.Letter) api.Errno {
	if l.Kind > 7 {
		return api.ErrKind
	}
	l = only(l)
	for _, n := range []int{l.From, l.To, l.Ballot.Node, l.Was.Node} {
		if n < 0 || n > 15 {
			return api.ErrRange
		}
	}
	for _, n := range []int{l.Place, l.Ballot.Round, l.Was.Round, l.View.Number} {
		if n < 0 || n > highest {
			return api.ErrRange
		}
	}
	if l.Kind == 7 {
		if e := membersError(l.View.Members); e != api.OK {
			return e
		}
	}
	for _, e := range []api.Errno{entryError(l.Entry), textError(l.Call.Args, l.Call.Proc), textError(l.Answer.Bytes, int(l.Answer.Err), l.Answer.Raised)} {
		if e != api.OK {
			return e
		}
	}
	return api.OK
}

// wantAsChecked checks all of a letter, whether it is valid or not.
func wantAsChecked(t *testing.T, l letter.Letter) {
	t.Helper()
	if e := checked(l); e != api.OK {
		wantCheck(t, l, e)
	} else {
		wantLetter(t, l)
	}
}

// P1: letters of any numbers and lengths, through every function.
func TestP1Any(t *testing.T) {
	r := rand.New(rand.NewSource(1))
	for range 50000 {
		a, b := anyLetter(r), anyLetter(r)
		wantAsChecked(t, a)
		if letter.Same(a, b) != same(a, b) || !letter.Same(a, a) {
			t.Fatalf("Same(%v, %v)", a, b)
		}
	}
	huge := letter.Letter{
		From: math.MinInt, To: math.MaxInt, Place: math.MinInt, Ballot: of(math.MaxInt, math.MinInt), Was: of(math.MinInt, math.MaxInt), Some: true,
		Entry: vote.Entry{Kind: 255, Call: to(1, 2, math.MinInt, text(1<<20)), Members: make([]int, 1<<20)},
		View:  view(math.MinInt, make([]int, 1<<20)...), Call: to(1, 2, math.MaxInt, text(1<<20)),
		Answer: call.Answer{Err: math.MinInt, Raised: math.MaxInt, Bytes: text(1 << 20)},
	}
	for _, l := range append(anything(), huge) {
		for kind := range 256 {
			l.Kind = letter.Kind(kind)
			wantAsChecked(t, l)
			l.From, l.To = 1, 2
			wantAsChecked(t, l)
		}
	}
}

// P1, P8: any bytes, few and many.
func TestP1Bytes(t *testing.T) {
	r := rand.New(rand.NewSource(2))
	for size := range 5000 {
		b := make([]byte, size)
		wantAsScanned(t, b)
		r.Read(b)
		wantAsScanned(t, b)
		if size > 5 {
			copy(b, words(size%9, size%16, size/16%16))
			wantAsScanned(t, b)
		}
	}
	for n := range 256 {
		wantAsScanned(t, bytes.Repeat([]byte{byte(n)}, 1<<16))
		wantAsScanned(t, bytes.Repeat([]byte{0, byte(n)}, 1<<10))
	}
}

// R1: numbers have 64 bits: none is cut before it is checked.
func TestR1(t *testing.T) {
	if math.MaxInt != math.MaxInt64 {
		t.Error("int has not 64 bits")
	}
	for _, n := range []int{1 << 32, 1 << 33, 1 << 62, -1 << 32} {
		l := full(letter.Promise)
		l.Place = n
		wantCheck(t, l, api.ErrRange)
		l = full(letter.Promise)
		l.To = n
		wantCheck(t, l, api.ErrRange)
		if got := l.Only(); got.To != n || letter.Same(l, full(letter.Promise)) {
			t.Errorf("%d is cut", n)
		}
	}
	l, e := letter.Take(encoded(letter.Letter{Kind: letter.Want, Place: highest}))
	if e != api.OK || l.Place != highest {
		t.Errorf("Place %d, error %d", l.Place, e)
	}
}

// R2: of two errors the first: the kind before all, numbers before the view, and
// the view before the answer.
func TestR2(t *testing.T) {
	tooLong := text(most + 1)
	for _, l := range each() {
		l.Entry, l.Call, l.Answer, l.View.Members = vote.Entry{Kind: 7}, to(1, 2, 3, tooLong), call.Answer{Bytes: tooLong}, nil
		for _, change := range []func(l *letter.Letter){
			func(l *letter.Letter) { l.From = -1 },
			func(l *letter.Letter) { l.From = 16 },
			func(l *letter.Letter) { l.To = -1 },
			func(l *letter.Letter) { l.To = 16 },
		} {
			wrong := l
			change(&wrong)
			wantCheck(t, wrong, api.ErrRange)
			wrong.Kind = letter.Kinds
			wantCheck(t, wrong, api.ErrKind)
		}
	}
	for _, l := range having("Entry") {
		l.Entry = joined()
		wantCheck(t, l, api.ErrMany)
		l.Place = -1
		wantCheck(t, l, api.ErrRange)
		l.Entry = vote.Entry{Kind: 7}
		wantCheck(t, l, api.ErrRange)
	}
	l := full(letter.Answer)
	l.Answer = call.Answer{Bytes: tooLong}
	wantCheck(t, l, api.ErrSize)
	l.Answer.Err = -1
	wantCheck(t, l, api.ErrRange)
	l.View.Members = nil
	wantCheck(t, l, api.ErrMany)
	l.View.Number = highest + 1
	wantCheck(t, l, api.ErrRange)
	l.View.Number = -1
	wantCheck(t, l, api.ErrRange)
}

// R3: beside an error there is a zero letter, though some of it, or all of it
// but the last byte, was taken; and there are no bytes.
func TestR3(t *testing.T) {
	for _, l := range each() {
		b := encoded(l)
		wantNoLetter(t, b[:len(b)-1], api.ErrShort)
		wantNoLetter(t, append(b, 0), api.ErrRest)
		wantNoLetter(t, replaced(l, 2, 16), api.ErrRange)
		l.From = 16
		if b, e := l.Put(); e != api.ErrRange || b != nil {
			t.Errorf("Put of %v: % x, error %d", l, b, e)
		}
	}
}

// R5: no bytes and no members may be nil or empty, in what the letter has and in
// what it does not.
func TestR5(t *testing.T) {
	for kind := range letter.Kinds + 1 {
		for _, x := range []vote.Entry{{}, called(call.Call{}), joined()} {
			none := letter.Letter{Kind: kind, Some: true, Entry: x, View: view(1, 2)}
			empty := none
			empty.Entry.Call.Args, empty.Entry.Members, empty.Call.Args, empty.Answer.Bytes = []byte{}, []int{}, []byte{}, []byte{}
			if !letter.Same(none, empty) || !letter.Same(empty, none) || !letter.Same(none.Only(), empty.Only()) {
				t.Errorf("%v: empty is not nil", none)
			}
			wantAsChecked(t, none)
			wantAsChecked(t, empty)
			none.View.Members, empty.View.Members = nil, []int{}
			if !letter.Same(none, empty) || !letter.Same(empty, none) {
				t.Errorf("%v: no members are not empty ones", none)
			}
			wantAsChecked(t, none)
			wantAsChecked(t, empty)
		}
	}
}

// roomyBytes returns b with spare capacity that has something in it.
func roomyBytes(b []byte) []byte {
	return append(slices.Clone(b), 77, 78, 79)[:len(b)]
}

// roomyMembers does the same for members.
func roomyMembers(l []int) []int {
	return append(slices.Clone(l), 77, 78, 79)[:len(l)]
}

// roomy returns l in memory of its own, with spare capacity behind each list.
func roomy(l letter.Letter) letter.Letter {
	l.Entry.Call.Args, l.Entry.Members = roomyBytes(l.Entry.Call.Args), roomyMembers(l.Entry.Members)
	l.View.Members, l.Call.Args, l.Answer.Bytes = roomyMembers(l.View.Members), roomyBytes(l.Call.Args), roomyBytes(l.Answer.Bytes)
	return l
}

// spare returns l with its lists as long as with what roomy put behind them.
func spare(l letter.Letter) letter.Letter {
	for _, b := range []*[]byte{&l.Entry.Call.Args, &l.Call.Args, &l.Answer.Bytes} {
		*b = (*b)[:len(*b)+3]
	}
	for _, m := range []*[]int{&l.Entry.Members, &l.View.Members} {
		*m = (*m)[:len(*m)+3]
	}
	return l
}

// scribble overwrites a letter's lists and their spare capacity.
func scribble(l letter.Letter) {
	for _, b := range [][]byte{l.Entry.Call.Args, l.Call.Args, l.Answer.Bytes} {
		clear(b[:cap(b)])
	}
	for _, m := range [][]int{l.Entry.Members, l.View.Members} {
		clear(m[:cap(m)])
	}
}

// R6: no function changes a letter, also behind the ends of its lists; nor do
// their results share them.
func TestR6Letter(t *testing.T) {
	r := rand.New(rand.NewSource(6))
	for range 20000 {
		was := anyLetter(r)
		l, clean := roomy(was), spare(roomy(was))
		l.Check()
		letter.Same(l, roomy(was))
		b, _ := l.Put()
		clear(b[:cap(b)])
		scribble(l.Only())
		if !same(spare(l), clean) {
			t.Fatalf("%v became %v", was, l)
		}
		one, other := l.Only(), l.Only()
		scribble(one)
		scribble(l)
		if !same(other, only(was)) {
			t.Fatalf("Only of %v became %v", was, other)
		}
	}
}

// R6: Take changes no bytes, and what it returns does not change with them, nor
// with what another Take returns.
func TestR6Take(t *testing.T) {
	for _, l := range samples() {
		b := roomyBytes(encoded(l))
		one, _ := letter.Take(b)
		other, _ := letter.Take(b)
		scribble(one)
		letter.Take(b[:len(b)-1])
		if !bytes.Equal(b[:len(b)+3], append(encoded(l), 77, 78, 79)) {
			t.Errorf("the bytes of %.400v became % .100x", l, b)
		}
		clear(b)
		if !same(other, only(l)) {
			t.Errorf("%.400v became %.400v", l, other)
		}
	}
}

// R8: nothing but the arguments matters: not what came before, nor who else
// asks at the same time.
func TestR8(t *testing.T) {
	r := rand.New(rand.NewSource(8))
	var letters []letter.Letter
	for range 3000 {
		letters = append(letters, anyLetter(r))
	}
	done := make(chan bool)
	for range 4 {
		order := r.Perm(len(letters))
		go func() {
			defer func() { done <- true }()
			for _, i := range order {
				if e := checked(letters[i]); letters[i].Check() != e {
					t.Errorf("Check of %v: not %d", letters[i], e)
				}
				b, e := letters[i].Put()
				got, _ := letter.Take(b)
				if e == api.OK && !same(got, only(letters[i])) {
					t.Errorf("%v is taken as %v", letters[i], got)
				}
			}
		}()
	}
	for range 4 {
		<-done
	}
}
