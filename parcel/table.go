package parcel

import (
	"slices"

	"prompter/api"
)

// Held is how many messages may be incomplete at once.
const Held = 16

// Table stores incomplete messages, and remembers which were complete. The
// zero Table is empty.
type Table struct {
	open []*message // the oldest one first
	done map[id]struct{}
}

// id is what tells a message from all others: each node counts its own.
type id struct {
	from   int
	letter uint32
}

// message is an incomplete one.
type message struct {
	id    id
	many  int
	parts map[int][]byte
}

// Put stores a part, and returns the message's bytes and true if that was the
// last one missing.
func (t *Table) Put(p Parcel) ([]byte, bool) {
	if t == nil || p.Check() != api.OK || t.wasComplete(p.id()) {
		return nil, false
	}
	m := t.find(p.id())
	if m == nil {
		m = t.start(p)
	}
	m.store(p)
	if len(m.parts) < m.many {
		return nil, false
	}
	t.complete(m)
	return m.bytes(), true
}

// Len returns how many messages are incomplete.
func (t *Table) Len() int {
	if t == nil {
		return 0
	}
	return len(t.open)
}

// id returns which message the parcel is of.
func (p Parcel) id() id {
	return id{from: p.From, letter: p.Letter}
}

// wasComplete reports whether all of a message was there once.
func (t *Table) wasComplete(x id) bool {
	_, done := t.done[x]
	return done
}

// find returns an incomplete message, or nil.
func (t *Table) find(x id) *message {
	for _, m := range t.open {
		if m.id == x {
			return m
		}
	}
	return nil
}

// start adds the message of a parcel, in place of the oldest one if there are
// too many. It does not ask how many parts the message has: also one of a
// single part is incomplete until that is stored.
func (t *Table) start(p Parcel) *message {
	m := &message{id: p.id(), many: p.Many, parts: map[int][]byte{}}
	t.open = append(t.open, m)
	if len(t.open) > Held {
		t.open = slices.Delete(t.open, 0, 1)
	}
	return m
}

// complete removes a message, and remembers that it was there.
func (t *Table) complete(m *message) {
	t.open = slices.DeleteFunc(t.open, func(o *message) bool { return o == m })
	if t.done == nil { // a zero Table has no map to write to
		t.done = map[id]struct{}{}
	}
	t.done[m.id] = struct{}{}
}

// store keeps a copy of a part, but not of one that is there, nor of one of
// another number of parts: those leave the message as incomplete as it was.
func (m *message) store(p Parcel) {
	if _, there := m.parts[p.Part]; there || p.Many != m.many {
		return
	}
	m.parts[p.Part] = slices.Clone(p.Bytes)
}

// bytes returns the bytes of all parts, in the order of the parts.
func (m *message) bytes() []byte {
	var b []byte
	for i := range m.many {
		b = append(b, m.parts[i]...)
	}
	return b
}
