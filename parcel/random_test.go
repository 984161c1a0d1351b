package parcel_test

import (
	"bytes"
	"math/rand"
	"slices"
	"testing"

	"prompter/api"
	"prompter/parcel"
)

// some returns one of the numbers.
func some(r *rand.Rand, numbers ...int) int {
	return numbers[r.Intn(len(numbers))]
}

// randomParcel returns a valid parcel.
func randomParcel(r *rand.Rand) parcel.Parcel {
	many := some(r, 1, 2, 3, 99, 100, 1+r.Intn(most))
	p := part(r.Intn(16), r.Uint32()>>r.Intn(32), some(r, 0, many-1, r.Intn(many)), many, make([]byte, size))
	if p.Part == many-1 {
		p.Bytes = p.Bytes[:some(r, 1, size-1, size, 1+r.Intn(size))]
	}
	if many == 1 {
		p.Bytes = p.Bytes[:r.Intn(len(p.Bytes)+1)]
	}
	r.Read(p.Bytes)
	return p
}

// P18.1: random parcels.
func TestP18_1Random(t *testing.T) {
	r := rand.New(rand.NewSource(18))
	for range 50000 {
		wantParcel(t, randomParcel(r))
	}
}

// P18.1, P8: random parcels' bytes, changed, cut, and with more between them,
// without a sum, with a right one, and changed once more behind that.
func TestP18_1RandomChanges(t *testing.T) {
	r := rand.New(rand.NewSource(8))
	for range 100000 {
		b := plain(randomParcel(r))
		for range 1 + r.Intn(3) {
			b = randomChange(r, b)
		}
		if r.Intn(2) == 0 {
			wantAsTaken(t, b)
		}
		wantAsTaken(t, summed(b))
		wantAsTaken(t, randomChange(r, summed(b)))
	}
}

// randomChange returns bytes that differ from b in some place.
func randomChange(r *rand.Rand, b []byte) []byte {
	at, word := r.Intn(len(b)+1), words(some(r, 0, 1, 15, 16, 48, 49, 99, 100, 101, r.Intn(1<<16)))
	switch r.Intn(5) {
	case 0:
		return slices.Insert(b, at, word...)
	case 1:
		return slices.Concat(b[:at], b[min(len(b), at+1+r.Intn(4)):])
	case 2:
		return b[:at]
	case 3:
		at -= at % 2
		return slices.Replace(b, at, min(len(b), at+2), word...)
	}
	if at < len(b) {
		b[at] ^= 1 << r.Intn(8)
	}
	return b
}

// P18.1, P8: all rows of Words with a right sum, the last of which are the
// bytes.
func TestP18_1Rows(t *testing.T) {
	numbers := []int{0, 1, 2, 15, 16, 99, 100, 101}
	for _, from := range []int{0, 15, 16, 256} {
		for _, i := range numbers {
			for _, many := range numbers {
				for n := range 6 {
					for _, c := range []int{0, 1, 256} {
						for rest := range 5 {
							b := words(append([]int{from, 1, 2, i, many, n}, c, c, c, c)[:6+rest]...)
							wantAsTaken(t, summed(b))
							wantAsTaken(t, summed(b[:len(b)-1]))
						}
					}
				}
			}
		}
	}
}

// P18.1: random messages, cut.
func TestP18_1RandomCut(t *testing.T) {
	r := rand.New(rand.NewSource(1))
	for range 3000 {
		b := make([]byte, r.Intn(1+some(r, 50, 200, 4800)))
		r.Read(b)
		wantCut(t, r.Intn(16), r.Uint32(), b, max(1, (len(b)+47)/48))
	}
}

// deck returns the parts of some messages: of few nodes with few numbers, so
// that some are of the same message, in any order, and some twice.
func deck(r *rand.Rand, messages int) []parcel.Parcel {
	var l []parcel.Parcel
	spread := 1 + r.Intn(12)
	for range messages {
		b := make([]byte, size*r.Intn(1+some(r, 1, 2, 5))+some(r, 0, 1, 47))
		r.Read(b)
		l = append(l, cut(r.Intn(min(16, spread)), uint32(r.Intn(spread)), b)...)
	}
	for range r.Intn(1 + len(l)) {
		l = append(l, l[r.Intn(len(l))])
	}
	// Parts that come near to where they would be in order: else hardly any
	// message would become complete while there are many.
	reach := 1 + r.Intn(some(r, 2, 20, len(l)))
	for i := range l {
		j := min(len(l)-1, i+r.Intn(reach))
		l[i], l[j] = l[j], l[i]
	}
	return l
}

// P18.2: random parts of random messages against a second table, after each of
// them.
func TestP18_2Random(t *testing.T) {
	r := rand.New(rand.NewSource(182))
	for range 3000 {
		var table parcel.Table
		var m model
		for _, p := range deck(r, 1+r.Intn(60)) {
			if r.Intn(20) == 0 {
				wantStep(t, &table, &m, anyParcel(r))
			}
			wantStep(t, &table, &m, p)
		}
	}
}

// P18.2: all rows of five of eight parts, of five messages, behind fourteen and
// fifteen incomplete ones.
func TestP18_2Rows(t *testing.T) {
	parts := []parcel.Parcel{
		part(1, 1, 0, 2, text(size, 1)), part(1, 1, 1, 2, text(5, 2)), part(1, 2, 0, 1, text(6, 3)), part(1, 2, 1, 2, text(size, 4)),
		part(2, 1, 0, 2, text(size, 5)), part(2, 1, 1, 2, text(7, 6)), part(0, 0, 0, 2, text(size, 7)), part(0, 1, 0, 2, text(size, 8)),
	}
	for row := range 8 * 8 * 8 * 8 * 8 {
		for _, many := range []int{held - 2, held - 1} {
			var table parcel.Table
			var m model
			for n := range many {
				wantStep(t, &table, &m, part(0, uint32(n), 1, 2, []byte{byte(n)}))
			}
			rest := row
			for range 5 {
				wantStep(t, &table, &m, parts[rest%8])
				rest /= 8
			}
		}
	}
}

// P18.2, P8: what arrives of packets that were lost, doubled, reordered and
// spoilt on the way is each message at most once, and as it was sent; and if
// nothing was lost and there are sixteen of them, each.
func TestP18_2Network(t *testing.T) {
	r := rand.New(rand.NewSource(3))
	for round := range 300 {
		sent := map[[2]int][]byte{}
		var packets [][]byte
		for n := range held {
			b := make([]byte, r.Intn(some(r, 60, 4801)))
			r.Read(b)
			sent[[2]int{n % 5, n}] = b
			l, _ := parcel.Cut(n%5, uint32(n), b)
			for _, p := range l {
				packet, _ := p.Put()
				packets = append(packets, packet)
			}
		}
		lossy := round%2 == 0
		packets = carried(r, packets, lossy)
		var table parcel.Table
		arrived := 0
		for _, packet := range packets {
			p, e := parcel.Take(packet)
			if e != api.OK {
				continue
			}
			name := [2]int{p.From, int(p.Letter)}
			if b, ok := table.Put(p); ok {
				if want, there := sent[name]; !there || !bytes.Equal(b, want) {
					t.Fatalf("message %v arrived as % x", name, b)
				}
				delete(sent, name)
				arrived++
			}
		}
		if !lossy && arrived != held || table.Len() > len(sent) {
			t.Fatalf("%d messages arrived, %d are left, %d incomplete", arrived, len(sent), table.Len())
		}
	}
}

// carried returns the packets in another order, some of them twice, some spoilt
// ones among them, and, if it is lossy, some of them not.
func carried(r *rand.Rand, packets [][]byte, lossy bool) [][]byte {
	var l [][]byte
	for _, b := range packets {
		if !lossy || r.Intn(50) > 0 {
			l = append(l, b)
		}
		if r.Intn(4) == 0 {
			l = append(l, b)
		}
		if r.Intn(4) == 0 {
			b = slices.Clone(b)
			turn(b, r.Intn(8*len(b)-31), 1+uint32(r.Intn(highest)))
			l = append(l, b)
		}
	}
	r.Shuffle(len(l), func(i, j int) { l[i], l[j] = l[j], l[i] })
	return l
}
