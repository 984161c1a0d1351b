package vote

// Voter is what one member promised and accepted for one place of the book.
// The zero Voter has promised ballot 0, 0 and accepted nothing.
type Voter struct {
	promised Ballot
	accepted Ballot // the ballot of entry, if there is some
	entry    Entry
	some     bool
}

// Promise promises to accept nothing below b, if b is above the ballot that is
// promised. It returns what was accepted last: its ballot, the entry, and
// whether there is any; and whether b is promised now.
func (v *Voter) Promise(b Ballot) (Ballot, Entry, bool, bool) {
	if v == nil || !v.promised.Less(b) {
		return Ballot{}, Entry{}, false, false
	}
	v.promised = b
	// What was accepted must not change with what the caller does to the result.
	return v.accepted, v.entry.apart(), v.some, true
}

// Accept accepts x with ballot b, unless b is below the ballot that is
// promised. It retains x.
func (v *Voter) Accept(b Ballot, x Entry) bool {
	if v == nil || b.Less(v.promised) {
		return false
	}
	*v = Voter{promised: b, accepted: b, entry: x, some: true}
	return true
}

// Promised returns the ballot that is promised.
func (v *Voter) Promised() Ballot {
	if v == nil {
		return Ballot{}
	}
	return v.promised
}
