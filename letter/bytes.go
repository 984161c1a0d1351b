package letter

import (
	"prompter/api"
	"prompter/call"
	"prompter/troupe"
	"prompter/vote"
	"prompter/wire"
)

// Put encodes the letter, or returns Check's error.
func (l Letter) Put() ([]byte, api.Errno) {
	if e := l.Check(); e != api.OK {
		return nil, e
	}
	var w wire.Writer
	l.write(&w)
	return w.Bytes(), api.OK
}

// write encodes what a valid letter has.
func (l Letter) write(w *wire.Writer) {
	w.Word(uint16(l.Kind))
	w.Word(uint16(l.From))
	w.Word(uint16(l.To))
	if l.has(place) {
		w.Long(uint32(l.Place))
	}
	if l.has(ballot) {
		writeBallot(w, l.Ballot)
	}
	if l.has(some) {
		writeBool(w, l.Some)
	}
	if l.has(was) {
		writeBallot(w, l.Was)
	}
	if l.has(entry) {
		l.Entry.Put(w)
	}
	if l.has(asked) {
		l.Call.Put(w)
	}
	if l.has(answered) {
		w.Word(l.Id.Troupe)
		w.Word(l.Id.Number)
		writeView(w, l.View)
		l.Answer.Put(w)
	}
}

// writeBallot encodes a ballot.
func writeBallot(w *wire.Writer, b vote.Ballot) {
	w.Long(uint32(b.Round))
	w.Word(uint16(b.Node))
}

// writeBool encodes whether something is so: 1 or 0.
func writeBool(w *wire.Writer, so bool) {
	if so {
		w.Word(1)
	} else {
		w.Word(0)
	}
}

// writeView encodes a view's number, how many members it has, and which.
func writeView(w *wire.Writer, v troupe.View) {
	w.Long(uint32(v.Number))
	w.Word(uint16(len(v.Members)))
	for _, n := range v.Members {
		w.Word(uint16(n))
	}
}

// Take decodes the letter of which b is exactly the encoding. Whether its
// numbers may be is asked last, so that bytes that were cut, or that have more
// behind them, are told as such.
func Take(b []byte) (Letter, api.Errno) {
	r := wire.Read(b)
	l := read(r)
	if e := r.End(); e != api.OK {
		return Letter{}, e
	}
	if e := l.Check(); e != api.OK {
		return Letter{}, e
	}
	return l, api.OK
}

// read decodes a letter, which need not be valid, or a part of one if the
// reader fails. What a Promise has behind Some depends on Some, so the letter
// is asked part by part what it has.
func read(r *wire.Reader) Letter {
	var l Letter
	l.Kind = readKind(r)
	l.From = int(r.Word())
	l.To = int(r.Word())
	if l.has(place) {
		l.Place = int(r.Long())
	}
	if l.has(ballot) {
		l.Ballot = readBallot(r)
	}
	if l.has(some) {
		l.Some = r.Within(1) == 1
	}
	if l.has(was) {
		l.Was = readBallot(r)
	}
	if l.has(entry) {
		l.Entry = vote.Take(r)
	}
	if l.has(asked) {
		l.Call = call.Take(r)
	}
	if l.has(answered) {
		l.Id.Troupe = r.Word()
		l.Id.Number = r.Word()
		l.View = readView(r)
		l.Answer = call.TakeAnswer(r)
	}
	return l
}

// readKind decodes a kind. It looks at the whole Word: cut to a Kind, a greater
// one might name a kind.
func readKind(r *wire.Reader) Kind {
	n := r.Word()
	if n >= uint16(Kinds) {
		r.Fail(api.ErrKind)
		return 0
	}
	return Kind(n)
}

// readBallot decodes a ballot.
func readBallot(r *wire.Reader) vote.Ballot {
	round := int(r.Long())
	return vote.Ballot{Round: round, Node: int(r.Word())}
}

// readView decodes a view, which need not be valid.
func readView(r *wire.Reader) troupe.View {
	number := int(r.Long())
	members := make([]int, r.Within(api.MaxNodes))
	for i := range members {
		members[i] = int(r.Word())
	}
	return troupe.View{Number: number, Members: members}
}
