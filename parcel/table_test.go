package parcel_test

import (
	"bytes"
	"math/rand"
	"slices"
	"testing"

	"prompter/parcel"
)

// lengths are numbers of bytes of messages: of one part, two and more, the
// last one short or full.
var lengths = []int{0, 1, 47, 48, 49, 50, 95, 96, 97, 144, 145, 1000, 4752, 4753, 4799, 4800}

// wantOrder puts a message's parts into a table, in an order, the last of which
// makes it complete.
func wantOrder(t *testing.T, table *parcel.Table, l []parcel.Parcel, order []int, b []byte) {
	t.Helper()
	before := table.Len()
	for i, at := range order {
		if i == len(order)-1 {
			wantPut(t, table, l[at], b)
			wantLen(t, table, before)
			return
		}
		wantNone(t, table, l[at])
		wantLen(t, table, before+1)
	}
}

// up returns the numbers below n.
func up(n int) []int {
	l := make([]int, n)
	for i := range l {
		l[i] = i
	}
	return l
}

// down returns them the other way round.
func down(n int) []int {
	l := up(n)
	slices.Reverse(l)
	return l
}

// P18.2: the zero Table has no messages.
func TestP18_2Empty(t *testing.T) {
	var table parcel.Table
	wantLen(t, &table, 0)
	wantLen(t, new(parcel.Table), 0)
	if parcel.Held != held {
		t.Errorf("Held is %d", parcel.Held)
	}
}

// P18.2: messages put together in order, the other way round, and in any order.
func TestP18_2Orders(t *testing.T) {
	r := rand.New(rand.NewSource(18))
	var table parcel.Table
	number := uint32(0)
	for _, n := range lengths {
		b := text(n, n)
		many := max(1, (n+size-1)/size)
		for _, order := range [][]int{up(many), down(many), r.Perm(many), r.Perm(many), r.Perm(many)} {
			wantOrder(t, &table, cut(n%16, number, b), order, b)
			number++
		}
	}
}

// permutations returns all orders of the numbers below n.
func permutations(n int) [][]int {
	if n == 0 {
		return [][]int{nil}
	}
	var all [][]int
	for _, l := range permutations(n - 1) {
		for at := range n {
			all = append(all, slices.Insert(slices.Clone(l), at, n-1))
		}
	}
	return all
}

// P18.2: all orders of up to six parts.
func TestP18_2AllOrders(t *testing.T) {
	var table parcel.Table
	number := uint32(0)
	for many := 1; many <= 6; many++ {
		for _, order := range permutations(many) {
			b := text(size*many-many, int(number))
			wantOrder(t, &table, cut(0, number, b), order, b)
			number++
		}
	}
}

// P18.2: the parts that Cut makes, encoded and taken, are the message again.
func TestP18_2CutPutTake(t *testing.T) {
	var table parcel.Table
	for _, n := range lengths {
		b := text(n, n)
		l, _ := parcel.Cut(n%16, uint32(n), b)
		for i := range l {
			packet, _ := l[i].Put()
			l[i], _ = parcel.Take(packet)
		}
		wantOrder(t, &table, l, up(len(l)), b)
	}
}

// P18.2: a part that is there already, with the same bytes or with others: the
// first one counts.
func TestP18_2Twice(t *testing.T) {
	for many := 2; many <= 100; many += 7 {
		var table parcel.Table
		b := text(size*many-3, many)
		l := cut(5, 6, b)
		for i, p := range l {
			other := p
			other.Bytes = text(len(p.Bytes), many+i+1)
			if i == many-1 {
				wantPut(t, &table, p, b)
			} else {
				wantNone(t, &table, p)
				wantLen(t, &table, 1)
			}
			wantNone(t, &table, p)
			wantNone(t, &table, other)
			for _, q := range l[:i] {
				wantNone(t, &table, q)
			}
		}
		wantLen(t, &table, 0)
	}
}

// P18.2: a message that was complete, put again: its parts are not stored, with
// whatever bytes and of however many parts.
func TestP18_2Again(t *testing.T) {
	var table parcel.Table
	for number, n := range lengths {
		b := text(n, n)
		l := cut(7, uint32(number), b)
		wantOrder(t, &table, l, up(len(l)), b)
		for range 3 {
			for _, m := range lengths {
				for _, p := range cut(7, uint32(number), text(m, n+1)) {
					wantNone(t, &table, p)
					wantLen(t, &table, 0)
				}
			}
		}
	}
}

// P18.2: a message is known as complete however many others came since.
func TestP18_2AgainLater(t *testing.T) {
	var table parcel.Table
	const many = 20000
	for n := range uint32(many) {
		for from := range 16 {
			wantPut(t, &table, part(from, n<<16|n, 0, 1, []byte{byte(n)}), []byte{byte(n)})
		}
	}
	for n := range uint32(many) {
		wantNone(t, &table, part(int(n%16), n<<16|n, 0, 1, nil))
		wantNone(t, &table, part(int(n%16), n<<16|n, 0, 2, text(size, 1)))
	}
	wantLen(t, &table, 0)
	wantPut(t, &table, part(0, many<<16|many, 0, 1, nil), nil)
}

// P18.2: the same bytes by another number, or from another node, are another
// message, at the same time or later.
func TestP18_2Others(t *testing.T) {
	var table parcel.Table
	b := text(130, 1)
	numbers := []uint32{0, 1, 2, 15, 16, 1 << 16, 1 << 31, highest}
	for _, from := range []int{0, 15} {
		for i := range 3 {
			for _, number := range numbers {
				p := cut(from, number, b)[i]
				if i == 2 {
					wantPut(t, &table, p, b)
				} else {
					wantNone(t, &table, p)
				}
			}
		}
		wantLen(t, &table, 0)
	}
	for from := 1; from < 15; from++ {
		for _, number := range numbers {
			wantOrder(t, &table, cut(from, number, b), down(3), b)
		}
	}
}

// P18.2: several messages at once, their parts by turns, from sixteen nodes.
func TestP18_2AtOnce(t *testing.T) {
	var table parcel.Table
	var messages [][]byte
	for from := range 16 {
		messages = append(messages, text(99*size+1+from, from))
	}
	for i := range most {
		for from, b := range messages {
			p := cut(from, 3, b)[(i+5*from)%most]
			if i < most-1 {
				wantNone(t, &table, p)
				continue
			}
			wantPut(t, &table, p, b)
			wantLen(t, &table, 15-from)
		}
	}
}

// P18.2: a part with another Many than those that are stored is not; the
// message goes on as before.
func TestP18_2OtherMany(t *testing.T) {
	for many := 2; many < 12; many++ {
		var table parcel.Table
		b := text(size*many, many)
		for _, p := range cut(1, 2, b) {
			for other := 1; other <= most; other++ {
				if other == many {
					continue
				}
				if p.Part > 0 {
					wantNone(t, &table, part(1, 2, p.Part%other, other, text(size, 7)))
					wantNone(t, &table, part(1, 2, other-1, other, text(size, 7)))
				}
			}
			if p.Part == many-1 {
				wantPut(t, &table, p, b)
				wantLen(t, &table, 0)
			} else {
				wantNone(t, &table, p)
				wantLen(t, &table, 1)
			}
		}
	}
}

// P18.2: a parcel that is not valid is not stored: neither as a first part nor
// as a later one, nor does it remove anything.
func TestP18_2NotValid(t *testing.T) {
	wrong := []parcel.Parcel{
		{}, part(-1, 9, 0, 2, text(size, 1)), part(16, 9, 0, 2, text(size, 1)), part(1, 9, -1, 2, text(size, 1)),
		part(1, 9, 2, 2, text(size, 1)), part(1, 9, 0, 0, nil), part(1, 9, 0, 101, text(size, 1)), part(1, 9, 100, 101, text(size, 1)),
		part(1, 9, 0, 2, text(47, 1)), part(1, 9, 0, 2, text(49, 1)), part(1, 9, 0, 2, nil), part(1, 9, 1, 2, nil),
		part(1, 9, 1, 2, text(49, 1)), part(1, 9, 0, 1, text(49, 1)), part(1, 9, 1, 3, text(47, 1)), part(1, 9, 0, -1, nil),
	}
	for many := range held + 1 {
		var table parcel.Table
		for n := range many {
			wantNone(t, &table, part(2, uint32(n), 0, 2, text(size, n)))
		}
		for _, p := range wrong {
			wantNone(t, &table, p)
			wantLen(t, &table, many)
		}
		for n := range many {
			wantPut(t, &table, part(2, uint32(n), 1, 2, []byte("z")), append(text(size, n), 'z'))
		}
		b := text(size+1, 3)
		wantOrder(t, &table, cut(1, 9, b), up(2), b)
		for _, p := range wrong {
			wantNone(t, &table, p)
		}
	}
}

// begin puts the first parts of many messages of two.
func begin(t *testing.T, table *parcel.Table, many int) {
	t.Helper()
	for n := range many {
		wantNone(t, table, part(n%16, uint32(n), n%2, 2, text(size, n)))
		wantLen(t, table, min(n+1, held))
	}
}

// end puts the other part of a message that begin began.
func end(n int) (parcel.Parcel, []byte) {
	b := text(size, 100+n)
	if n%2 == 0 {
		return part(n%16, uint32(n), 1, 2, b), append(text(size, n), b...)
	}
	return part(n%16, uint32(n), 0, 2, b), append(b, text(size, n)...)
}

// P18.2: sixteen incomplete messages are all there.
func TestP18_2Sixteen(t *testing.T) {
	for _, order := range [][]int{up(held), down(held), rand.New(rand.NewSource(2)).Perm(held)} {
		var table parcel.Table
		begin(t, &table, held)
		for i, n := range order {
			p, b := end(n)
			wantPut(t, &table, p, b)
			wantLen(t, &table, held-1-i)
		}
	}
}

// P18.2: of seventeen and more, the oldest are removed with their parts; such
// a message was not complete, so that it may come again.
func TestP18_2Seventeen(t *testing.T) {
	for more := 1; more < 40; more++ {
		var table parcel.Table
		begin(t, &table, held+more)
		for n := more; n < held+more; n++ {
			p, b := end(n)
			wantPut(t, &table, p, b)
		}
		wantLen(t, &table, 0)
		for n := range more {
			p, _ := end(n)
			wantNone(t, &table, p)
			wantLen(t, &table, 1)
			q := part(n%16, uint32(n), n%2, 2, text(size, 200+n))
			b := append(slices.Clone(q.Bytes), p.Bytes...)
			if n%2 == 1 {
				b = append(slices.Clone(p.Bytes), q.Bytes...)
			}
			wantPut(t, &table, q, b)
		}
	}
}

// P18.2: a message that was removed may come again with another Many.
func TestP18_2RemovedOtherMany(t *testing.T) {
	var table parcel.Table
	begin(t, &table, held+1)
	b := text(3*size, 5)
	wantNone(t, &table, part(0, 0, 0, 3, b[:size]))
	wantNone(t, &table, part(0, 0, 2, 3, b[2*size:]))
	wantPut(t, &table, part(0, 0, 1, 3, b[size:2*size]), b)
}

// P18.2: the oldest message is the one whose first part came first, whatever
// came of it later; only a message's first part removes another one.
func TestP18_2Oldest(t *testing.T) {
	var table parcel.Table
	for n := range held {
		wantNone(t, &table, part(1, uint32(n), 2, 4, text(size, n)))
	}
	for n := held - 1; n >= 0; n-- {
		wantNone(t, &table, part(1, uint32(n), 0, 4, text(size, n+1)))
		wantNone(t, &table, part(1, uint32(n), 0, 4, text(size, n+1)))
		wantLen(t, &table, held)
	}
	wantNone(t, &table, part(2, 0, 0, 2, text(size, 0))) // 1, 0 is removed
	wantNone(t, &table, part(1, 1, 3, 4, text(1, 1)))
	wantLen(t, &table, held)
	wantNone(t, &table, part(1, 0, 1, 4, text(size, 0))) // 1, 1 is removed, 1, 0 the newest
	wantLen(t, &table, held)
	for n := 2; n < held; n++ {
		wantNone(t, &table, part(1, uint32(n), 1, 4, text(size, n+2)))
		wantPut(t, &table, part(1, uint32(n), 3, 4, []byte("end")), slices.Concat(text(size, n+1), text(size, n+2), text(size, n), []byte("end")))
	}
	wantLen(t, &table, 2)
	wantPut(t, &table, part(2, 0, 1, 2, []byte("end")), append(text(size, 0), "end"...))
	wantNone(t, &table, part(1, 1, 1, 4, text(size, 0)))
	wantNone(t, &table, part(1, 1, 0, 4, text(size, 0)))
	wantNone(t, &table, part(1, 1, 2, 4, text(size, 0)))
	wantPut(t, &table, part(1, 1, 3, 4, []byte("end")), slices.Concat(bytes.Repeat(text(size, 0), 3), []byte("end")))
	wantLen(t, &table, 1)
}

// P18.2: a message that becomes complete makes room for another one.
func TestP18_2Room(t *testing.T) {
	for n := range held {
		var table parcel.Table
		begin(t, &table, held)
		p, b := end(n)
		wantPut(t, &table, p, b)
		wantNone(t, &table, part(3, 99, 0, 2, text(size, 1)))
		wantLen(t, &table, held)
		for other := range held {
			if p, b := end(other); other != n {
				wantPut(t, &table, p, b)
			}
		}
		wantPut(t, &table, part(3, 99, 1, 2, text(1, 1)), append(text(size, 1), text(1, 1)...))
		wantLen(t, &table, 0)
	}
}

// P18.2: the first part of a message is stored before anything is complete, so
// that a message of a single part removes the oldest of sixteen, too; not of
// fifteen, and not if it was complete before.
func TestP18_2Single(t *testing.T) {
	for many := range held + 1 {
		var table parcel.Table
		wantPut(t, &table, part(9, 98, 0, 1, nil), nil)
		begin(t, &table, many)
		wantNone(t, &table, part(9, 98, 0, 1, nil))
		wantLen(t, &table, many)
		wantPut(t, &table, part(9, 99, 0, 1, []byte("one")), []byte("one"))
		wantLen(t, &table, min(many, held-1))
		wantNone(t, &table, part(9, 99, 0, 1, []byte("one")))
		for n := range many {
			p, b := end(n)
			if n == 0 && many == held {
				continue
			}
			wantPut(t, &table, p, b)
		}
		wantLen(t, &table, 0)
	}
}

// P18.2: a part without bytes, or with bytes that are 0, is there, too.
func TestP18_2Nothing(t *testing.T) {
	var table parcel.Table
	for number, b := range [][]byte{nil, {}, {0}, make([]byte, size), make([]byte, size+1), make([]byte, 4800)} {
		l := cut(0, uint32(number), b)
		wantOrder(t, &table, l, down(len(l)), b)
		for _, p := range l {
			wantNone(t, &table, p)
		}
	}
	wantLen(t, &table, 0)
}
