package kind_test

import (
	"math"
	"math/rand"
	"reflect"
	"regexp"
	"slices"
	"strings"
	"testing"
	"unsafe"

	"prompter/api"
	"prompter/kind"
)

// The patterns by which the tests know names on their own.
var (
	name     = regexp.MustCompile(`^[a-zA-Z][a-zA-Z0-9]{0,19}$`)
	reserved = regexp.MustCompile("^(" + strings.ReplaceAll(words, " ", "|") + ")$")
)

// checks collects the errors of a table in the order in which the chapter
// states them; OK where there is none.
type checks struct {
	list  []api.Errno
	names []string
}

// unless adds an error, unless something holds.
func (c *checks) unless(holds bool, e api.Errno) {
	if holds {
		e = api.OK
	}
	c.list = append(c.list, e)
}

func (c *checks) within(n, lowest, highest int, e api.Errno) {
	c.unless(lowest <= n && n <= highest, e)
}

func (c *checks) name(s string, before []string) {
	c.unless(name.MatchString(s) && !reserved.MatchString(s), api.ErrName)
	c.unless(!slices.Contains(before, s), api.ErrTwice)
}

func (c *checks) typ(x kind.Type, known []string, levels int) {
	c.unless(levels > 0 && x.Kind < kind.Kinds, api.ErrKind)
	if levels == 0 {
		return
	}
	if slices.Contains([]kind.Kind{kind.Text, kind.Seq}, x.Kind) {
		c.within(x.Most, 1, 60, api.ErrRange)
	} else {
		c.within(x.Most, 0, 0, api.ErrRange)
	}
	of := map[kind.Kind]int{kind.Seq: 1, kind.Record: len(x.Names), kind.Choice: len(x.Names)}[x.Kind]
	c.within(len(x.Of), of, of, api.ErrForm)
	c.unless(x.Kind > kind.Seq || len(x.Names) == 0, api.ErrForm)
	c.unless(x.Kind != kind.Ref || len(x.Names) == 1, api.ErrForm)
	if x.Kind == kind.Record || x.Kind == kind.Enum || x.Kind == kind.Choice {
		c.within(len(x.Names), 1, 12, api.ErrMany)
		for i, s := range x.Names {
			c.name(s, x.Names[:i])
		}
	}
	if x.Kind == kind.Ref && len(x.Names) > 0 {
		c.unless(slices.Contains(known, x.Names[0]), api.ErrNone)
	}
	for _, part := range x.Of {
		c.typ(part, known, levels-1)
	}
}

// check is what the chapter says of Check.
func check(t kind.Table) api.Errno {
	c := &checks{}
	c.name(t.Name, nil)
	c.within(t.Number, 0, 65535, api.ErrRange)
	c.within(t.Version, 0, 65535, api.ErrRange)
	for _, n := range []int{len(t.Types), len(t.Faults), len(t.Procs)} {
		c.within(n, 0, 16, api.ErrMany)
	}
	var names []string
	for _, a := range t.Types {
		c.name(a.Name, names)
		c.typ(a.Type, names, 5)
		names = append(names, a.Name)
	}
	known := names[:len(t.Types)]
	var numbers []int
	for _, f := range t.Faults {
		c.name(f.Name, names)
		c.within(f.Number, 0, 65535, api.ErrRange)
		c.unless(!slices.Contains(numbers, f.Number), api.ErrTwice)
		names, numbers = append(names, f.Name), append(numbers, f.Number)
	}
	numbers = nil
	for _, p := range t.Procs {
		c.name(p.Name, names)
		c.within(p.Number, 0, 65535, api.ErrRange)
		c.within(p.Timeout, 1, 1000, api.ErrRange)
		c.within(int(p.Collate), 0, 2, api.ErrRange)
		c.unless(!slices.Contains(numbers, p.Number), api.ErrTwice)
		for _, x := range []kind.Type{p.Takes, p.Answers} {
			c.typ(x, known, 5)
			_, e := whole(t, x)
			c.unless(false, e)
		}
		names, numbers = append(names, p.Name), append(numbers, p.Number)
	}
	at := slices.IndexFunc(c.list, func(e api.Errno) bool { return e != api.OK })
	if at < 0 {
		return api.OK
	}
	return c.list[at]
}

// randomNumber returns a small number, so that some occur twice, or one at a
// limit.
func randomNumber(r *rand.Rand) int {
	if r.Intn(30) > 0 {
		return r.Intn(400)
	}
	return []int{-1, 0, 65535, 65536, math.MinInt, math.MaxInt}[r.Intn(6)]
}

// manyNames are enough for few to occur twice.
var manyNames = numbered(400)

func randomName(r *rand.Rand) string {
	if r.Intn(30) > 0 {
		return manyNames[r.Intn(400)]
	}
	return []string{"", "1", "seq", "A9", strings.Repeat("a", 20), strings.Repeat("a", 21), "a b"}[r.Intn(7)]
}

// spoil changes a type, here or in a part.
func spoil(r *rand.Rand, x *kind.Type) {
	if len(x.Of) > 0 && r.Intn(4) > 0 {
		spoil(r, &x.Of[r.Intn(len(x.Of))])
		return
	}
	switch r.Intn(5) {
	case 0:
		x.Kind = kind.Kind(r.Intn(12))
	case 1:
		x.Most = []int{-1, 0, 1, 60, 61}[r.Intn(5)]
	case 2:
		x.Names = append(x.Names, randomName(r))
	case 3:
		x.Of = append(x.Of, plain(kind.Kind(r.Intn(4))))
	case 4:
		x.Names = numbered(len(x.Of))
	}
}

// randomFace returns a table with all that tables have; many are right.
func randomFace(r *rand.Rand) kind.Table {
	table := randomTable(r)
	table.Number, table.Version = randomNumber(r), randomNumber(r)
	names := numbered(len(table.Types))
	for range r.Intn(6) {
		table.Faults = append(table.Faults, kind.Fault{Name: randomName(r), Number: randomNumber(r)})
	}
	for range r.Intn(6) {
		table.Procs = append(table.Procs, kind.Proc{Name: randomName(r), Number: randomNumber(r), Takes: randomType(r, 1+r.Intn(5), names),
			Answers: randomType(r, 1+r.Intn(5), names), Collate: kind.Collator(r.Intn(3)), Timeout: 1 + r.Intn(1000)})
	}
	if len(table.Types) > 0 && r.Intn(4) == 0 {
		spoil(r, &table.Types[r.Intn(len(table.Types))].Type)
	}
	if len(table.Procs) > 0 && r.Intn(4) == 0 {
		spoil(r, &table.Procs[r.Intn(len(table.Procs))].Takes)
	}
	if len(table.Procs) > 0 && r.Intn(4) == 0 {
		spoil(r, &table.Procs[r.Intn(len(table.Procs))].Answers)
	}
	return table
}

func TestP5_2Random(t *testing.T) {
	r := rand.New(rand.NewSource(52))
	many := map[api.Errno]int{}
	for range 40000 {
		table := randomFace(r)
		want := check(table)
		many[want]++
		if got := table.Check(); got != want {
			t.Errorf("Check of %v: error %d, want %d", table, got, want)
		}
	}
	for _, e := range []api.Errno{api.OK, api.ErrKind, api.ErrRange, api.ErrForm, api.ErrMany, api.ErrName, api.ErrTwice, api.ErrNone} {
		if many[e] < 50 {
			t.Errorf("error %d of %d tables only", e, many[e])
		}
	}
}

// Of what Check accepts, procedures are whole, and found.
func TestP5_3FindRandom(t *testing.T) {
	r := rand.New(rand.NewSource(54))
	found := 0
	for range 5000 {
		table := randomFace(r)
		for n := range 400 {
			at := slices.IndexFunc(table.Procs, func(p kind.Proc) bool { return p.Number == n })
			p, ok := table.Find(n)
			if ok != (at >= 0) || ok && !reflect.DeepEqual(p, table.Procs[at]) || !ok && !reflect.DeepEqual(p, kind.Proc{}) {
				t.Errorf("Find(%d) of %v: %v, %v", n, table.Procs, p, ok)
			}
			if ok {
				found++
			}
		}
		if !kind.Alike(table, table) {
			t.Errorf("%v is not Alike itself", table)
		}
	}
	if found < 1000 {
		t.Errorf("%d procedures found", found)
	}
}

// endless returns a type that, in memory, contains itself.
func endless(k kind.Kind, parts int) kind.Type {
	x := kind.Type{Kind: k, Most: 1, Of: make([]kind.Type, parts)}
	if k != kind.Seq {
		x.Most, x.Names = 0, numbered(parts)
	}
	for i := range x.Of {
		x.Of[i] = x
	}
	return x
}

// P1: no type, however it is made, makes Check or Whole panic, or not end.
func TestP1Endless(t *testing.T) {
	for parts := range 13 {
		for _, k := range []kind.Kind{kind.Seq, kind.Record, kind.Choice} {
			if parts == 0 || k == kind.Seq && parts > 1 {
				continue
			}
			x := endless(k, parts)
			wantType(t, "an endless type", x, api.ErrKind)
			wantNoWhole(t, "an endless type", kind.Table{}, x, api.ErrKind)
			wantNoWhole(t, "an alias's endless type", chain(3, x), ref("c"), api.ErrKind)
		}
	}
	// Much of it before it is too deep.
	x := plain(kind.Bool)
	for range 18 {
		x = record(repeat(12, x)...)
	}
	wantNoWhole(t, "12^18 types", kind.Table{}, x, api.ErrSize)
	wantType(t, "12^18 types", x, api.ErrKind)
}

// P1: types, lists and numbers of any size.
func TestP1Large(t *testing.T) {
	x := plain(kind.Bool)
	for range 1 << 22 {
		x = kind.Type{Kind: kind.Seq, Most: 1, Of: []kind.Type{x}}
	}
	wantType(t, "a deep type", x, api.ErrKind)
	wantNoWhole(t, "a deep type", kind.Table{}, x, api.ErrKind)
	table := kind.Table{Types: []kind.Alias{{"a", x}}, Procs: []kind.Proc{{Number: 1, Takes: x}}}
	p, ok := table.Find(1)
	if !ok || !kind.Same(p.Takes, x) || !kind.Alike(table, table) {
		t.Error("a deep type is not found, or not the same")
	}
	y := seq(1, x)
	if kind.Same(x, y) || kind.Same(p.Takes.Of[0], x) {
		t.Error("types of different depth are the same")
	}
	wide := bools(1 << 18)
	wantType(t, "a wide type", wide, api.ErrMany)
	wantNoWhole(t, "a wide type", kind.Table{}, wide, api.ErrSize)
	if !kind.Same(wide, bools(1<<18)) || kind.Same(wide, bools(1<<18-1)) {
		t.Error("Same of wide types")
	}
	many := chain(1<<18, plain(kind.Bool))
	wantWhole(t, "the first of many aliases", many, ref("a"), plain(kind.Bool))
	wantNoWhole(t, "the last of many aliases", many, last(many), api.ErrKind)
	kind.Named(strings.Repeat("\xff", 1<<24))
	kind.Named("a" + strings.Repeat("\x00", 1<<24))
}

// P1: zero values, nil lists, and any mixture of fields.
func TestP1NoPanic(t *testing.T) {
	r := rand.New(rand.NewSource(1))
	number := func() int { return []int{-1, 0, 1, 2, 60, math.MinInt, math.MaxInt}[r.Intn(7)] }
	var mixed func(levels int) kind.Type
	mixed = func(levels int) kind.Type {
		x := kind.Type{Kind: kind.Kind(r.Intn(256)), Most: number()}
		if r.Intn(3) > 0 {
			x.Kind %= 12
		}
		for range r.Intn(4) {
			x.Names = append(x.Names, randomName(r))
		}
		for range r.Intn(4) {
			if levels > 0 {
				x.Of = append(x.Of, mixed(levels-1))
			}
		}
		return x
	}
	for range 5000 {
		table := kind.Table{Name: randomName(r), Number: number(), Version: number()}
		for range r.Intn(4) {
			table.Types = append(table.Types, kind.Alias{Name: randomName(r), Type: mixed(2)})
			table.Faults = append(table.Faults, kind.Fault{Name: randomName(r), Number: number()})
			table.Procs = append(table.Procs, kind.Proc{Name: randomName(r), Number: number(), Takes: mixed(2), Answers: mixed(2),
				Collate: kind.Collator(r.Intn(256)), Timeout: number()})
		}
		if got, want := table.Check(), check(table); got != want {
			t.Errorf("Check of %v: error %d, want %d", table, got, want)
		}
		x := mixed(4)
		want, e := whole(table, x)
		if got, ge := table.Whole(x); ge != e || e == api.OK && !reflect.DeepEqual(heads(got), want) {
			t.Errorf("Whole of %v: %v, error %d, want %d", x, got, ge, e)
		}
		table.Find(number())
		if !kind.Same(x, clone(x)) || !kind.Alike(table, table) {
			t.Errorf("%v, %v: not equal to themselves", x, table)
		}
	}
}

// P2, R1.
func TestR1(t *testing.T) {
	if math.MaxInt != math.MaxInt64 {
		t.Error("int has not 64 bits")
	}
	wantCheck(t, "2^32", kind.Table{Name: "a", Number: 1 << 32}, api.ErrRange)
}

// P2, R2: the order of errors is TestP5_2Order's, TestP5_2OrderInType's,
// TestP5_2OrderInPart's and TestP5_3WholeFirst's; here those of a table itself.
func TestR2(t *testing.T) {
	table := full(17, 17, 17)
	table.Types[0].Name = "1"
	table.Name, table.Number, table.Version = "of", -1, 65536
	wantCheck(t, "name", table, api.ErrName)
	table.Name = "On"
	wantCheck(t, "number", table, api.ErrRange)
	table.Number = 0
	wantCheck(t, "version", table, api.ErrRange)
	table.Version = 0
	wantCheck(t, "many", table, api.ErrMany)
}

// P2, R3: nothing comes with an error, even if much of it was made already.
func TestR3(t *testing.T) {
	for e, x := range map[api.Errno]kind.Type{
		api.ErrNone: record(text(1), ref("Price"), ref("none")),
		api.ErrKind: record(text(1), ref("Item"), nested(20, text(1))),
		api.ErrSize: record(text(1), ref("Item"), bools(196)),
	} {
		wantNoWhole(t, "Whole", good(), x, e)
	}
	if p, ok := good().Find(10); ok || !reflect.DeepEqual(p, kind.Proc{}) {
		t.Errorf("Find: %v, %v", p, ok)
	}
}

// P2, R5: empty lists are equal to nil ones, and have the same errors.
func TestR5(t *testing.T) {
	empty := func(k kind.Kind, most int) kind.Type {
		return kind.Type{Kind: k, Most: most, Names: []string{}, Of: []kind.Type{}}
	}
	for k := range 12 {
		for most := range 2 {
			x, y := kind.Type{Kind: kind.Kind(k), Most: most}, empty(kind.Kind(k), most)
			if !kind.Same(x, y) || !kind.Same(y, x) || !kind.Same(record(x, y), record(y, x)) {
				t.Errorf("kind %d: nil and empty lists differ", k)
			}
			wantType(t, "empty lists", x, wantShape(kind.Kind(k), most, 0, 0))
			wantType(t, "nil lists", y, wantShape(kind.Kind(k), most, 0, 0))
			a, e := good().Whole(x)
			b, f := good().Whole(y)
			if e != f || !kind.Same(a, b) {
				t.Errorf("kind %d: Whole of nil and empty lists: %v, %d and %v, %d", k, a, e, b, f)
			}
		}
	}
	a := kind.Table{Name: "t"}
	b := kind.Table{Name: "t", Types: []kind.Alias{}, Faults: []kind.Fault{}, Procs: []kind.Proc{}}
	if !kind.Alike(a, b) || !kind.Alike(b, a) || a.Check() != api.OK || b.Check() != api.OK {
		t.Error("tables with nil and empty lists differ")
	}
}

// roomy returns x with lists that have spare capacity, with something in it.
func roomy(x kind.Type) kind.Type {
	x.Names = append(slices.Clone(x.Names), "spare", "room")[:len(x.Names)]
	of := append(slices.Clone(x.Of), plain(kind.Real), ref("spare"))
	for i := range of {
		if i < len(x.Of) {
			of[i] = roomy(of[i])
		}
	}
	x.Of = of[:len(x.Of)]
	return x
}

// roomyTable returns good's table with such lists.
func roomyTable() kind.Table {
	table := good()
	for i, a := range table.Types {
		table.Types[i].Type = roomy(a.Type)
	}
	for i, p := range table.Procs {
		table.Procs[i].Takes, table.Procs[i].Answers = roomy(p.Takes), roomy(p.Answers)
	}
	table.Types = append(table.Types, kind.Alias{Name: "spare"})[:3]
	table.Faults = append(table.Faults, kind.Fault{Name: "spare"})[:3]
	table.Procs = append(table.Procs, kind.Proc{Name: "spare"})[:3]
	return table
}

// all returns x with the lists as long as their capacity.
func all(x kind.Type) kind.Type {
	x.Names = x.Names[:cap(x.Names)]
	x.Of = slices.Clone(x.Of[:cap(x.Of)])
	for i, part := range x.Of {
		x.Of[i] = all(part)
	}
	return x
}

// allTable does so with a table.
func allTable(t kind.Table) kind.Table {
	t.Types = slices.Clone(t.Types[:cap(t.Types)])
	t.Faults = slices.Clone(t.Faults[:cap(t.Faults)])
	t.Procs = slices.Clone(t.Procs[:cap(t.Procs)])
	for i, a := range t.Types {
		t.Types[i].Type = all(a.Type)
	}
	for i, p := range t.Procs {
		t.Procs[i].Takes, t.Procs[i].Answers = all(p.Takes), all(p.Answers)
	}
	return t
}

// ruin overwrites whatever can be reached from x.
func ruin(x kind.Type) {
	names := x.Names[:cap(x.Names)]
	for i := range names {
		names[i] = "ruined"
	}
	of := x.Of[:cap(x.Of)]
	for i := range of {
		ruin(of[i])
		of[i] = kind.Type{Kind: 99, Most: 99}
	}
}

// P2, R4 and R6: arguments stay as they are, and results are the caller's.
func TestR6(t *testing.T) {
	table, twin := roomyTable(), roomyTable()
	x, same := roomy(record(ref("Item"), ref("Item"), enum("a b"))), roomy(record(ref("Item"), ref("Item"), enum("a b")))
	unchanged := func(what string) {
		t.Helper()
		if !reflect.DeepEqual(allTable(table), allTable(twin)) || !reflect.DeepEqual(all(x), all(same)) {
			t.Fatalf("%s changed an argument: %v, %v", what, allTable(table), all(x))
		}
	}
	table.Check()
	unchanged("Check")
	kind.Same(x, table.Types[1].Type)
	kind.Alike(table, twin)
	unchanged("Same or Alike")
	for range 2 {
		got, e := table.Whole(x)
		item, _ := good().Whole(ref("Item"))
		if want := record(item, item, enum("a b")); e != api.OK || !kind.Same(got, want) {
			t.Fatalf("Whole: %v, error %d, want %v", got, e, want)
		}
		unchanged("Whole")
		first := got.Of[0]
		ruin(first)
		if !kind.Same(got.Of[1], item) || !kind.Same(got.Of[2], enum("a b")) {
			t.Errorf("two parts of a result share memory: %v", got)
		}
		ruin(got)
		unchanged("a change of Whole's result")
		for i, n := range []int{0, 65535, 9} {
			p, ok := table.Find(n)
			if !ok || !reflect.DeepEqual(p.Name, twin.Procs[i].Name) || !kind.Same(p.Takes, twin.Procs[i].Takes) {
				t.Fatalf("Find(%d): %v, %v", n, p, ok)
			}
			unchanged("Find")
			ruin(p.Takes)
			if !kind.Same(p.Answers, twin.Procs[i].Answers) {
				t.Errorf("what a result takes and answers shares memory: %v", p)
			}
			ruin(p.Answers)
			unchanged("a change of Find's result")
		}
	}
}

// R6: no two lists of a result are one, even if those of the argument are.
func TestR6Shared(t *testing.T) {
	shared := record(enum("a b"), seq(2, text(1)))
	x := choice(shared, shared)
	got, _ := (kind.Table{}).Whole(x)
	p, _ := (kind.Table{Procs: []kind.Proc{{Takes: x, Answers: x}}}).Find(0)
	for _, y := range []kind.Type{got, p.Takes, p.Answers} {
		ruin(y.Of[0])
		if !kind.Same(y.Of[1], shared) || !kind.Same(x, choice(shared, shared)) {
			t.Errorf("two parts of a result share memory: %v", y)
		}
	}
	if x := p.Answers; !kind.Same(x.Of[1], shared) {
		t.Errorf("what a result takes and answers shares memory: %v", p)
	}
}

// texts returns all the texts of x.
func texts(x kind.Type) []string {
	list := slices.Clone(x.Names)
	for _, part := range x.Of {
		list = append(list, texts(part)...)
	}
	return list
}

// R6, of texts: those of a result are none of the argument's.
func TestR6Texts(t *testing.T) {
	given := record(enum("first1 second2"), choice(plain(kind.Bool)))
	given.Names = []string{strings.Clone("third"), strings.Clone("fourth")}
	table := kind.Table{Types: []kind.Alias{{"x", given}}, Procs: []kind.Proc{{Name: strings.Clone("proc1"), Takes: given, Answers: seq(1, given)}}}
	got, _ := table.Whole(seq(1, ref("x")))
	p, _ := table.Find(0)
	before := append(texts(given), table.Procs[0].Name)
	after := slices.Concat(texts(got), texts(p.Takes), texts(p.Answers), []string{p.Name})
	if len(before) != 6 || len(after) != 16 {
		t.Fatalf("texts %v and %v", before, after)
	}
	for _, a := range after {
		for _, b := range before {
			if unsafe.StringData(a) == unsafe.StringData(b) {
				t.Errorf("%q shares memory with the argument", a)
			}
		}
	}
}

// P2, R8: nothing but the arguments matters, not what was asked before, nor
// how lists are kept. (R7 asks nothing of this layer: it has no objects behind
// pointers.)
func TestR8(t *testing.T) {
	list := slices.Collect(func(yield func(kind.Table) bool) {
		for _, table := range tables() {
			if !yield(table) {
				return
			}
		}
	})
	list = append(list, good(), roomyTable(), full(16, 16, 16))
	for i, a := range list {
		check := a.Check()
		x, e := a.Whole(ref("Item"))
		p, ok := a.Find(9)
		for _, b := range list[max(0, i-5):] {
			b.Check()
			b.Whole(ref("Item"))
			b.Find(9)
			y, f := a.Whole(ref("Item"))
			q, again := a.Find(9)
			if a.Check() != check || e != f || !reflect.DeepEqual(x, y) || ok != again || !reflect.DeepEqual(p, q) {
				t.Errorf("%v: other results after %v", a, b)
			}
		}
	}
}
