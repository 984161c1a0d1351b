package letter_test

import (
	"math"
	"slices"
	"testing"

	"prompter/api"
	"prompter/letter"
	"prompter/vote"
)

// samples are valid letters of each kind, small ones and the greatest ones.
func samples() []letter.Letter {
	all := each()
	for _, l := range each() {
		l.Entry = vote.Entry{}
		l.View.Members, l.Call.Args, l.Answer.Bytes = []int{0}, nil, nil
		all = append(all, l)
		l.Entry = joined(first(16)...)
		l.View.Members, l.Call.Args, l.Answer.Bytes = first(16), text(most-1), text(most)
		all = append(all, l)
		l.Entry = called(to(1, 2, 3, text(most-1)))
		all = append(all, l)
	}
	return all
}

// P17.2, P8: the bytes of a letter, cut at each place.
func TestP17_2Short(t *testing.T) {
	wantNoLetter(t, nil, api.ErrShort)
	wantNoLetter(t, []byte{}, api.ErrShort)
	for _, l := range append(samples(), letter.Letter{}) {
		b := encoded(l)
		for n := range b {
			wantNoLetter(t, b[:n], api.ErrShort)
		}
	}
}

// P17.2, P8: the bytes of a letter, with more behind them.
func TestP17_2Rest(t *testing.T) {
	for _, l := range append(samples(), letter.Letter{}) {
		b := encoded(l)
		for n := range 256 {
			wantNoLetter(t, append(slices.Clone(b), byte(n)), api.ErrRest)
		}
		for size := 1; size < 40; size++ {
			wantNoLetter(t, append(slices.Clone(b), make([]byte, size)...), api.ErrRest)
		}
		wantNoLetter(t, slices.Concat(b, b), api.ErrRest)
		wantNoLetter(t, slices.Concat(b, make([]byte, 1<<16)), api.ErrRest)
	}
}

// replaced returns l's encoding with a Word in place of that at byte at.
func replaced(l letter.Letter, at, n int) []byte {
	return slices.Replace(encoded(l), at, at+2, words(n)...)
}

// P17.2, P8: no Word but eight is a kind, whatever follows.
func TestP17_2NoKind(t *testing.T) {
	for _, l := range append(samples(), letter.Letter{}) {
		for kind := 8; kind <= math.MaxUint16; kind += 1 + len(encoded(l))/100 {
			wantNoLetter(t, replaced(l, 0, kind))
		}
		for kind := 1; kind < 256; kind++ {
			wantNoLetter(t, replaced(l, 0, kind<<8))
			wantNoLetter(t, replaced(l, 0, kind<<8+int(l.Kind)))
		}
	}
	for kind := 8; kind <= math.MaxUint16; kind++ {
		wantNoLetter(t, words(kind))
		wantNoLetter(t, words(kind, 1, 2))
	}
}

// P17.2, P8: From, To and the nodes of ballots above 15.
func TestP17_2NoNodes(t *testing.T) {
	for _, l := range append(each(), letter.Letter{}) {
		for n := 16; n <= math.MaxUint16; n++ {
			wantNoLetter(t, replaced(l, 2, n))
			wantNoLetter(t, replaced(l, 4, n))
			if slices.Contains(parts(l), "Ballot") {
				wantNoLetter(t, replaced(l, 14, n))
			}
			if slices.Contains(parts(l), "Was") {
				wantNoLetter(t, replaced(l, 22, n))
			}
		}
	}
}

// P17.2, P8: a Some that is neither 0 nor 1, with and without what a Promise
// has if it is 1.
func TestP17_2NoSome(t *testing.T) {
	for _, l := range having("Some") {
		for n := 2; n <= math.MaxUint16; n++ {
			wantNoLetter(t, replaced(l, 16, n))
		}
	}
	some, none := full(letter.Promise), full(letter.Promise)
	none.Some = false
	wantNoLetter(t, replaced(some, 16, 0), api.ErrRest)
	wantNoLetter(t, replaced(none, 16, 1), api.ErrShort)
}

// headed returns what Put would make of a letter if its last part were b.
func headed(l letter.Letter, b []byte) []byte {
	all := encoded(l)
	last := parts(l)[len(parts(l))-1]
	return append(all[:len(all)-len(part(l, last))], b...)
}

// P17.2, P8: entries of no kind, with members that no view may have, or with
// calls that may not be.
func TestP17_2NoEntry(t *testing.T) {
	for _, l := range having("Entry") {
		for kind := 3; kind <= math.MaxUint16; kind++ {
			wantNoLetter(t, headed(l, words(kind)))
		}
		wantNoLetter(t, headed(l, words(256)))
		wantNoLetter(t, headed(l, words(3, 1, 5)))
		for n := 17; n <= math.MaxUint16; n++ {
			wantNoLetter(t, headed(l, words(2, n)))
			wantNoLetter(t, headed(l, words(2, 1, n)))
		}
		for _, members := range [][]int{{}, {16}, {0, 0}, {1, 0}, {0, 2, 1}, first(17), make([]int, 16)} {
			wantNoLetter(t, headed(l, append(words(2), memberBytes(members)...)))
		}
		wantNoLetter(t, headed(l, entryBytes(called(to(1, 2, 3, text(most+1))))))
		wantNoLetter(t, headed(l, append(words(1, 1, 2, 3, 1), 7, 7)))
	}
}

// P17.2, P8: views with members that no view may have.
func TestP17_2NoView(t *testing.T) {
	head, answer := words(7, 1, 2, 3, 4, 5, 6), words(0, 0, 0)
	wantNoLetter(t, slices.Concat(head, words(0), answer))
	for _, members := range [][]int{{16}, {255}, {256}, {65535}, {0, 0}, {1, 0}, {0, 2, 1}, {0, 16}, {0, 256}, first(17), make([]int, 16)} {
		wantNoLetter(t, slices.Concat(head, memberBytes(members), answer))
	}
	for many := 17; many <= math.MaxUint16; many++ {
		wantNoLetter(t, slices.Concat(head, words(many)))
		if many%1000 == 0 {
			wantNoLetter(t, slices.Concat(head, words(many), make([]byte, 2*many), answer))
		}
	}
	for n := 16; n <= math.MaxUint16; n++ {
		wantNoLetter(t, slices.Concat(head, words(1, n), answer))
		wantNoLetter(t, slices.Concat(head, words(3, 0, 1, n), answer))
	}
}

// P17.2, P8: calls and answers that are longer than Put makes them, or that end
// with another byte than 0 behind an odd number of bytes.
func TestP17_2NoText(t *testing.T) {
	asked, answer := full(letter.Asked), full(letter.Answer)
	for size := most + 1; size <= math.MaxUint16; size++ {
		wantNoLetter(t, headed(asked, words(1, 2, 3, size)))
		wantNoLetter(t, headed(answer, words(1, 2, size)))
	}
	for _, size := range []int{most + 1, most + 2, math.MaxUint16} {
		wantNoLetter(t, headed(asked, callBytes(to(1, 2, 3, text(size)))))
		wantNoLetter(t, headed(answer, append(words(1, 2), textBytes(text(size))...)))
	}
	for n := 1; n < 256; n++ {
		wantNoLetter(t, headed(asked, append(words(1, 2, 3, 1), 5, byte(n))))
		wantNoLetter(t, headed(answer, append(words(1, 2, 1), 5, byte(n))))
	}
}

// P17.2: the bytes of each kind's letters are those of no other letter.
func TestP17_2Apart(t *testing.T) {
	seen := map[string]letter.Letter{}
	for kind := range letter.Kinds {
		for _, l := range changes(kind) {
			if l.Check() != api.OK {
				continue
			}
			b, _ := l.Put()
			if other, ok := seen[string(b)]; ok && !same(only(l), only(other)) {
				t.Errorf("% x: %v and %v", b, l, other)
			}
			seen[string(b)] = l
		}
	}
}
