package vote_test

import (
	"bytes"
	"math"
	"math/rand"
	"slices"
	"testing"

	"prompter/api"
	"prompter/call"
	"prompter/vote"
	"prompter/wire"
)

// P1: entries and ballots of any numbers and lengths, through every function.
func TestP1Any(t *testing.T) {
	r := rand.New(rand.NewSource(1))
	v := new(vote.Voter)
	for range 3000 {
		x := anyEntry(r)
		b := of(int(r.Uint64())>>r.Intn(64), int(r.Uint64())>>r.Intn(64))
		if e := checked(x); e != api.OK {
			wantCheck(t, x, e)
		} else {
			wantEntry(t, x)
		}
		if !vote.Same(x, x) || b.Less(b) || b.Less(of(0, 0)) == of(0, 0).Less(b) && b != of(0, 0) {
			t.Errorf("%.100v, %v", x, b)
		}
		v.Accept(b, x)
		v.Promise(of(b.Round, b.Node+1))
		v.Promised()
	}
	for _, x := range []vote.Entry{called(to(1, 2, 3, text(1<<20))), joined(first(1 << 16)...), {Kind: 255, Call: to(1, 2, math.MinInt, text(1<<20)), Members: make([]int, 1<<20)}} {
		wantCheck(t, x, checked(x))
	}
}

// anyEntry returns an entry, which need not be valid.
func anyEntry(r *rand.Rand) vote.Entry {
	x := randomEntry(r)
	if r.Intn(3) == 0 {
		x.Kind = vote.Kind(r.Intn(256) >> r.Intn(8))
	}
	if r.Intn(5) == 0 {
		x.Call.Proc = int(r.Uint64()) >> r.Intn(64)
	}
	if r.Intn(5) == 0 {
		x.Members = append(slices.Clone(x.Members), int(r.Uint64())>>r.Intn(64))
	}
	return x
}

// P1: arbitrary bytes, up to many.
func TestP1Bytes(t *testing.T) {
	r := rand.New(rand.NewSource(2))
	for size := range 3000 {
		b := make([]byte, size)
		r.Read(b)
		wantAsLength(t, b)
		if size > 1 {
			b[0], b[1] = 0, byte(size%4)
			wantAsLength(t, b)
		}
	}
}

// R1: rounds, nodes and members have 64 bits.
func TestR1(t *testing.T) {
	if !of(1<<32-1, 0).Less(of(1<<32, 0)) || of(1<<32, 0).Less(of(0, 1)) || !of(0, 1<<32-1).Less(of(0, 1<<32)) || of(0, 1<<32).Less(of(0, 1)) || !of(-1<<40, 3).Less(of(0, 0)) {
		t.Error("ballots of more than 32 bits")
	}
	wantCheck(t, joined(1<<32), api.ErrRange)
	wantCheck(t, called(to(0, 0, 1<<32, nil)), api.ErrRange)
	wantActs(t, act{ballot: of(1<<40, 1<<40)}, act{accept: true, ballot: of(1<<40, 1<<40), entry: joined(3)}, act{ballot: of(1<<40, 1<<40+1)}, act{ballot: of(1, 1)})
}

// R2: the kind comes before what the entry has, and that before whether it is
// valid.
func TestR2(t *testing.T) {
	wrong := to(1, 2, -1, text(most+1))
	wantCheck(t, vote.Entry{Kind: 3, Call: wrong, Members: []int{-1}}, api.ErrKind)
	wantCheck(t, vote.Entry{Kind: vote.Called, Call: wrong, Members: []int{-1}}, api.ErrForm)
	wantCheck(t, vote.Entry{Kind: vote.Joined, Call: wrong, Members: first(17)}, api.ErrForm)
	wantCheck(t, vote.Entry{Kind: vote.Joined, Call: wrong}, api.ErrForm)
	wantCheck(t, vote.Entry{Kind: vote.Called, Call: wrong}, api.ErrRange)
	wantCheck(t, vote.Entry{Kind: vote.Joined, Members: append([]int{-1}, first(16)...)}, api.ErrMany)
}

// R3: with false there are zeros only, though something was accepted; beside a
// reader's error there is a zero entry.
func TestR3(t *testing.T) {
	v := new(vote.Voter)
	v.Accept(of(2, 3), called(to(1, 2, 3, text(4))))
	for _, b := range []vote.Ballot{of(2, 3), of(2, 2), of(1, 9), of(0, 0), of(-5, 3)} {
		if was, x, some, ok := v.Promise(b); was != of(0, 0) || !zero(x) || some || ok {
			t.Errorf("Promise(%v): %v, %v, %t, %t", b, was, x, some, ok)
		}
	}
	for _, b := range [][]byte{words(1, 7, 8, 9, 5), words(2, 3, 1, 2), words(2, 3, 1, 2, 2), words(9)} {
		if x := vote.Take(wire.Read(b)); !zero(x) {
			t.Errorf("Take(% x): %v", b, x)
		}
	}
}

// R4: a Promise and an Accept that return false have changed nothing.
func TestR4(t *testing.T) {
	v := new(vote.Voter)
	v.Accept(of(2, 3), joined(5))
	v.Promise(of(4, 0))
	for _, b := range []vote.Ballot{of(3, 15), of(2, 3), of(0, 0), of(-1, 0), of(4, -1)} {
		if v.Accept(b, joined(6)) {
			t.Errorf("Accept(%v): true", b)
		}
		if _, _, _, ok := v.Promise(b); ok || v.Promised() != of(4, 0) {
			t.Errorf("Promise(%v): %t, and %v is promised", b, ok, v.Promised())
		}
	}
	if _, _, _, ok := v.Promise(of(4, 0)); ok {
		t.Error("Promise of what is promised: true")
	}
	if was, x, some, ok := v.Promise(of(4, 1)); was != of(2, 3) || !same(x, joined(5)) || !some || !ok {
		t.Errorf("%v, %v, %t, %t", was, x, some, ok)
	}
}

// R5: no arguments and no members may be nil or empty.
func TestR5(t *testing.T) {
	for kind := range vote.Kinds {
		none := vote.Entry{Kind: kind}
		empty := vote.Entry{Kind: kind, Call: call.Call{Args: []byte{}}, Members: []int{}}
		if !vote.Same(none, empty) || !vote.Same(empty, none) || none.Check() != empty.Check() {
			t.Errorf("kind %d: empty is not nil", kind)
		}
		if kind == vote.Joined {
			wantCheck(t, none, api.ErrMany)
			wantCheck(t, empty, api.ErrMany)
		} else {
			wantEntry(t, none)
			wantEntry(t, empty)
		}
		wantActs(t, act{true, of(0, 1), none}, act{ballot: of(1, 0)}, act{true, of(1, 1), empty})
	}
	if x := vote.Take(wire.Read(nil)); !zero(x) {
		t.Errorf("Take of no bytes: %v", x)
	}
}

// roomy returns an entry whose lists have spare capacity with something in it.
func roomy(x vote.Entry) vote.Entry {
	x.Call.Args = append(slices.Clone(x.Call.Args), 77, 78, 79)[:len(x.Call.Args)]
	x.Members = append(slices.Clone(x.Members), 77, 78, 79)[:len(x.Members)]
	return x
}

// unchanged reports whether an entry that roomy returned is as it was, also
// behind the ends of its lists.
func unchanged(x, was vote.Entry) bool {
	args, members := x.Call.Args, x.Members
	return same(x, was) && bytes.Equal(args[:len(args)+3], append(bytes.Clone(was.Call.Args), 77, 78, 79)) && slices.Equal(members[:len(members)+3], append(slices.Clone(was.Members), 77, 78, 79))
}

// scribble overwrites an entry's lists and their spare capacity.
func scribble(x vote.Entry) {
	clear(x.Call.Args[:cap(x.Call.Args)])
	clear(x.Members[:cap(x.Members)])
}

// R6: arguments are not changed, also behind their ends; nor is what a Voter
// retains.
func TestR6Unchanged(t *testing.T) {
	r := rand.New(rand.NewSource(6))
	for range 5000 {
		was, v := anyEntry(r), new(vote.Voter)
		x, y := roomy(was), roomy(was)
		var w wire.Writer
		x.Check()
		x.Put(&w)
		vote.Same(x, y)
		v.Accept(of(1, 1), x)
		v.Accept(of(1, 0), y)
		_, got, _, _ := v.Promise(of(2, 0))
		if !same(got, was) {
			t.Fatalf("%v was accepted, not %v", was, got)
		}
		scribble(got)
		_, again, _, _ := v.Promise(of(3, 0))
		if !same(again, was) || !unchanged(x, was) || !unchanged(y, was) {
			t.Fatalf("%v became %v, %v; it is reported as %v", was, x, y, again)
		}
	}
}

// R6: what Promise returns is apart from what is retained, from what another
// Promise returns, and from what is accepted later.
func TestR6Promise(t *testing.T) {
	for _, x := range []vote.Entry{called(to(1, 2, 3, text(9))), joined(first(9)...), {Kind: 9, Call: to(1, 2, 3, text(9)), Members: first(9)}} {
		v := new(vote.Voter)
		v.Accept(of(1, 0), roomy(x))
		_, one, _, _ := v.Promise(of(2, 0))
		_, other, _, _ := v.Promise(of(3, 0))
		scribble(one)
		if !same(other, x) {
			t.Errorf("%v became %v with another result", x, other)
		}
		v.Accept(of(3, 0), joined(15))
		_, last, _, _ := v.Promise(of(4, 0))
		scribble(last)
		if !same(other, x) {
			t.Errorf("%v became %v with what was accepted later", x, other)
		}
	}
}

// R6: what Take returns does not change with the bytes of the reader, nor with
// what another Take returns; the reader's bytes do not change with it.
func TestR6Take(t *testing.T) {
	for _, x := range []vote.Entry{called(to(1, 2, 3, text(9))), joined(first(9)...)} {
		b := slices.Concat(encoded(x), encoded(x))
		kept := slices.Clone(b)
		r := wire.Read(b)
		one := vote.Take(r)
		scribble(one)
		other := vote.Take(r)
		if !same(other, x) || !bytes.Equal(b, kept) {
			t.Errorf("%v became %v with another result", x, other)
		}
		clear(b)
		if !same(other, x) {
			t.Errorf("%v became %v with the bytes", x, other)
		}
	}
}

// R7: a nil Voter has promised 0, 0 and promises and accepts nothing.
func TestR7Voter(t *testing.T) {
	var v *vote.Voter
	for _, b := range []vote.Ballot{of(0, 0), of(1, 2), of(-1, 0), of(math.MaxInt, math.MaxInt)} {
		if was, x, some, ok := v.Promise(b); was != of(0, 0) || !zero(x) || some || ok {
			t.Errorf("Promise(%v): %v, %v, %t, %t", b, was, x, some, ok)
		}
		if v.Accept(b, joined(1)) || v.Promised() != of(0, 0) {
			t.Errorf("Accept(%v): true, or %v is promised", b, v.Promised())
		}
	}
}

// R7: nothing is written to a nil writer, and nothing is taken of a nil reader.
func TestR7Wire(t *testing.T) {
	for _, x := range []vote.Entry{{}, called(to(1, 2, 3, text(9))), joined(0, 1), {Kind: 5}} {
		x.Put(nil)
	}
	if x := vote.Take(nil); !zero(x) {
		t.Errorf("Take(nil): %v", x)
	}
}

// R8: nothing but the acts of the same Voter matters: not those of others,
// between them.
func TestR8(t *testing.T) {
	r := rand.New(rand.NewSource(8))
	voters, histories := make([]vote.Voter, 10), make([]history, 10)
	for range 5000 {
		i, a := r.Intn(10), act{ballot: of(r.Intn(100), r.Intn(3))}
		if r.Intn(2) == 0 {
			a.accept, a.entry = true, randomEntry(r)
		}
		histories[i] = wantAct(t, &voters[i], histories[i], a)
	}
}

// R8: nor who else asks at the same time.
func TestR8Beside(t *testing.T) {
	done := make(chan bool)
	shared := called(to(1, 2, 3, text(99)))
	for i := range 4 {
		go func() {
			defer func() { done <- true }()
			v := new(vote.Voter)
			for round := 1; round < 3000; round++ {
				b := of(round, i)
				if !v.Accept(b, shared) || !vote.Same(shared, called(to(1, 2, 3, text(99)))) || shared.Check() != api.OK {
					t.Errorf("round %d", round)
				}
				if was, x, some, ok := v.Promise(of(round, i+1)); was != b || !same(x, shared) || !some || !ok {
					t.Errorf("round %d: %v, %v, %t, %t", round, was, x, some, ok)
				}
			}
		}()
	}
	for range 4 {
		<-done
	}
}
