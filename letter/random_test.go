package letter_test

import (
	"bytes"
	"math/rand"
	"slices"
	"testing"

	"prompter/api"
	"prompter/call"
	"prompter/letter"
	"prompter/vote"
)

// some returns one of the numbers.
func some(r *rand.Rand, numbers ...int) int {
	return numbers[r.Intn(len(numbers))]
}

// randomLong returns a number that a Long can tell, often one at an edge.
func randomLong(r *rand.Rand) int {
	return some(r, 0, 1, 255, 256, 65536, highest, int(r.Uint32()), r.Intn(4))
}

// randomWord returns a number that a Word can tell, likewise.
func randomWord(r *rand.Rand) int {
	return some(r, 0, 1, 255, 256, 32768, 65535, r.Intn(1<<16), r.Intn(4))
}

// randomBytes returns some bytes, mostly few ones.
func randomBytes(r *rand.Rand) []byte {
	b := make([]byte, r.Intn(8))
	if r.Intn(50) == 0 {
		b = make([]byte, most-r.Intn(4))
	}
	r.Read(b)
	return b
}

// randomMembers returns members that a view may have.
func randomMembers(r *rand.Rand) []int {
	mask := 1 + r.Intn(1<<16-1)
	return slices.DeleteFunc(first(16), func(n int) bool { return mask>>n&1 == 0 })
}

// randomCall returns a valid call.
func randomCall(r *rand.Rand) call.Call {
	return to(uint16(randomWord(r)), uint16(randomWord(r)), randomWord(r), randomBytes(r))
}

// randomEntry returns a valid entry.
func randomEntry(r *rand.Rand) vote.Entry {
	switch r.Intn(3) {
	case 0:
		return vote.Entry{}
	case 1:
		return called(randomCall(r))
	}
	return joined(randomMembers(r)...)
}

// randomLetter returns a letter that is valid, whatever its kind.
func randomLetter(r *rand.Rand) letter.Letter {
	return letter.Letter{
		Kind: letter.Kind(r.Intn(8)), From: r.Intn(16), To: r.Intn(16), Place: randomLong(r),
		Ballot: of(randomLong(r), r.Intn(16)), Was: of(randomLong(r), r.Intn(16)), Some: r.Intn(2) == 0,
		Entry: randomEntry(r), View: view(randomLong(r), randomMembers(r)...), Call: randomCall(r),
		Id:     call.Id{Troupe: uint16(randomWord(r)), Number: uint16(randomWord(r))},
		Answer: call.Answer{Err: api.Errno(randomWord(r)), Raised: randomWord(r), Bytes: randomBytes(r)},
	}
}

// P17.1, P17.2: random letters, and pairs of them, which have the same if their
// bytes are the same.
func TestP17_2Random(t *testing.T) {
	r := rand.New(rand.NewSource(17))
	for range 50000 {
		a, b := randomLetter(r), randomLetter(r)
		wantLetter(t, a)
		if r.Intn(2) == 0 {
			b = only(a)
		}
		if r.Intn(4) == 0 {
			b.From = r.Intn(16)
		}
		x, _ := a.Put()
		y, _ := b.Put()
		if equal := bytes.Equal(x, y); letter.Same(a.Only(), b.Only()) != equal || letter.Same(a, b) != same(a, b) {
			t.Fatalf("Same(%v, %v): not %t", a, b, equal)
		}
	}
}

// scanner goes through bytes, Word by Word: a recognizer by the chapters. It is
// wrong from the first Word on that Put does not make, or that is missing.
type scanner struct {
	rest  []byte
	wrong bool
}

// word returns the next Word, which may not be above highest.
func (s *scanner) word(highest int) int {
	if s.wrong || len(s.rest) < 2 {
		s.wrong = true
		return 0
	}
	n := int(s.rest[0])*256 + int(s.rest[1])
	s.rest, s.wrong = s.rest[2:], n > highest
	return n
}

// words goes through Words that may be anything.
func (s *scanner) words(many int) {
	for range many {
		s.word(65535)
	}
}

// ballot goes through a round and a node.
func (s *scanner) ballot() {
	s.words(2)
	s.word(15)
}

// members goes through members of a view.
func (s *scanner) members() {
	many, last := s.word(16), -1
	s.wrong = s.wrong || many == 0
	for range many {
		n := s.word(15)
		s.wrong = s.wrong || n <= last
		last = n
	}
}

// text goes through a Text.
func (s *scanner) text() {
	size := s.word(most)
	for range size / 2 {
		s.word(65535)
	}
	if size%2 == 1 {
		last := s.word(65535)
		s.wrong = s.wrong || last%256 != 0
	}
}

// entry goes through an entry.
func (s *scanner) entry() {
	switch s.word(2) {
	case 1:
		s.words(3)
		s.text()
	case 2:
		s.members()
	}
}

// letter goes through a letter.
func (s *scanner) letter() {
	kind := s.word(7)
	s.word(15)
	s.word(15)
	if kind < 6 {
		s.words(2)
	}
	switch kind {
	case 0, 3:
		s.ballot()
	case 1:
		s.ballot()
		if s.word(1) == 1 {
			s.ballot()
			s.entry()
		}
	case 2:
		s.ballot()
		s.entry()
	case 4:
		s.entry()
	case 6:
		s.words(3)
		s.text()
	case 7:
		s.words(4)
		s.members()
		s.words(2)
		s.text()
	}
}

// wantAsScanned checks Take on arbitrary bytes: what is taken is valid and put
// as the same bytes. It reports whether something was to be taken.
func wantAsScanned(t *testing.T, b []byte) bool {
	t.Helper()
	s := &scanner{rest: b}
	s.letter()
	switch {
	case s.wrong:
		wantNoLetter(t, b)
		return false
	case len(s.rest) > 0:
		wantNoLetter(t, b, api.ErrRest)
		return false
	}
	l, e := letter.Take(b)
	if e != api.OK || l.Check() != api.OK || !same(l, only(l)) || !bytes.Equal(encoded(l), b) {
		t.Errorf("Take(% .100x): %.400v, error %d", b, l, e)
	}
	if again, e := l.Put(); e != api.OK || !bytes.Equal(again, b) {
		t.Errorf("Take(% .100x) is put as % .100x, error %d", b, again, e)
	}
	return true
}

// P17.2, P8: each byte of a letter of each kind, changed to each other one.
func TestP17_2Changed(t *testing.T) {
	for _, l := range append(each(), letter.Letter{}) {
		b := encoded(l)
		for at := range b {
			for n := range 256 {
				changed := slices.Clone(b)
				changed[at] = byte(n)
				wantAsScanned(t, changed)
			}
		}
	}
}

// P17.2, P8: letters' bytes that are changed, cut, or have more behind them, and
// arbitrary bytes.
func TestP17_2ChangedMuch(t *testing.T) {
	r := rand.New(rand.NewSource(172))
	for range 100000 {
		b := encoded(randomLetter(r))
		switch r.Intn(6) {
		case 0:
			b[r.Intn(len(b))] ^= 1 << r.Intn(8)
		case 1:
			b = b[:r.Intn(len(b))]
			wantNoLetter(t, b, api.ErrShort)
		case 2:
			b = append(b, make([]byte, r.Intn(10))...)
		case 3:
			b[r.Intn(len(b))] = byte(r.Intn(20))
		case 4:
			r.Read(b[r.Intn(2):])
		case 5:
			at := r.Intn(len(b))
			b = slices.Delete(b, at, min(len(b), at+1+r.Intn(4)))
		}
		wantAsScanned(t, b)
	}
}

// grow checks all rows of some Words behind a head, up to most of them, also
// with half a Word behind them: where a letter's bytes go on with what a row
// lacks, the row is short. It reports whether there is such a letter.
func grow(t *testing.T, row []int, most int, numbers []int) bool {
	b := words(row...)
	taken := wantAsScanned(t, b)
	wantAsScanned(t, append(b, 1))
	longer := false
	if most > 0 && !t.Failed() {
		for _, n := range numbers {
			longer = grow(t, append(slices.Clone(row), n), most-1, numbers) || longer
		}
	}
	if longer {
		wantNoLetter(t, b, api.ErrShort)
	}
	return taken || longer
}

// P17.2, P8: all rows of some Words, from the start or behind a letter's start.
func TestP17_2All(t *testing.T) {
	for _, c := range []struct {
		head    []int
		most    int
		numbers []int
	}{
		{nil, 5, []int{0, 1, 2, 3, 4, 5, 6, 7, 8, 15, 16, 256, 65535}},
		{[]int{0, 15, 0, 65535, 0}, 4, []int{0, 1, 15, 16, 256, 65535}},
		{[]int{1, 0, 15, 1, 2, 3, 4, 5}, 6, []int{0, 1, 2, 15, 16}},
		{[]int{1, 0, 15, 1, 2, 3, 4, 5, 1, 6, 7, 8}, 6, []int{0, 1, 2, 15, 16}},
		{[]int{2, 0, 15, 1, 2, 3, 4, 5}, 6, []int{0, 1, 2, 15, 16}},
		{[]int{3, 15, 0, 0, 65535}, 4, []int{0, 1, 15, 16, 256, 65535}},
		{[]int{4, 3, 4, 5, 6}, 7, []int{0, 1, 2, 16}},
		{[]int{6, 1, 2}, 6, []int{0, 1, 2, 256, 65535}},
		{[]int{7, 1, 2, 3, 4, 65535, 65535}, 7, []int{0, 1, 2, 16}},
	} {
		if !grow(t, c.head, c.most, c.numbers) {
			t.Errorf("behind %v there is no letter", c.head)
		}
	}
}
