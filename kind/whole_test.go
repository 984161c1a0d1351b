package kind_test

import (
	"math/rand"
	"reflect"
	"slices"
	"strings"
	"testing"

	"prompter/api"
	"prompter/kind"
)

// wantWhole checks what Whole returns.
func wantWhole(t *testing.T, what string, table kind.Table, x, want kind.Type) {
	t.Helper()
	got, e := table.Whole(x)
	if e != api.OK || !reflect.DeepEqual(got, want) {
		t.Errorf("%s: %v, error %d, want %v", what, got, e, want)
	}
}

// wantNoWhole checks the error that Whole returns, and that it is alone.
func wantNoWhole(t *testing.T, what string, table kind.Table, x kind.Type, want api.Errno) {
	t.Helper()
	got, e := table.Whole(x)
	if e != want || !reflect.DeepEqual(got, kind.Type{}) {
		t.Errorf("%s: error %d, want %d; and %v", what, e, want, got)
	}
}

// chain returns n aliases, each of which is a Ref to the one before; the first
// one stands for x.
func chain(n int, x kind.Type) kind.Table {
	var table kind.Table
	for _, name := range numbered(n) {
		table.Types = append(table.Types, kind.Alias{Name: name, Type: x})
		x = ref(name)
	}
	return table
}

// last returns a Ref to a table's last alias.
func last(table kind.Table) kind.Type {
	return ref(table.Types[len(table.Types)-1].Name)
}

func TestP5_3WholePlain(t *testing.T) {
	for _, x := range []kind.Type{plain(kind.Bool), plain(kind.Card), plain(kind.Long), plain(kind.Real), text(1), text(60), enum("a b"),
		seq(5, text(3)), record(plain(kind.Bool), choice(text(2), plain(kind.Real))), nested(4, enum("c")), nested(19, text(1))} {
		wantWhole(t, "no table", kind.Table{}, x, x)
		wantWhole(t, "a table", good(), x, x)
	}
}

func TestP5_3WholeRefs(t *testing.T) {
	price, state := plain(kind.Card), enum("open closed")
	item := record(text(60), price, seq(60, price))
	wantWhole(t, "a name", good(), ref("Price"), price)
	wantWhole(t, "a name", good(), ref("State"), state)
	wantWhole(t, "names in an alias", good(), ref("Item"), item)
	wantWhole(t, "a name in a sequence", good(), seq(7, ref("Item")), seq(7, item))
	wantWhole(t, "names in a choice", good(), choice(ref("State"), plain(kind.Bool), ref("Item")), choice(state, plain(kind.Bool), item))
	wantWhole(t, "names in records", good(), record(record(ref("Item"), ref("Item")), ref("Price")), record(record(item, item), price))
	for i, p := range good().Procs {
		takes := []kind.Type{item, p.Takes, p.Takes}[i]
		answers := []kind.Type{choice(item, plain(kind.Bool)), state, p.Answers}[i]
		wantWhole(t, p.Name+" takes", good(), p.Takes, takes)
		wantWhole(t, p.Name+" answers", good(), p.Answers, answers)
	}
}

func TestP5_3WholeUnknown(t *testing.T) {
	for _, name := range []string{"", "price", "Price ", "Shop", "Sold", "find", "bool"} {
		wantNoWhole(t, name, good(), ref(name), api.ErrNone)
		wantNoWhole(t, name, good(), record(ref("Price"), nested(6, ref(name))), api.ErrNone)
		wantNoWhole(t, name, kind.Table{}, ref(name), api.ErrNone)
	}
	for _, names := range [][]string{nil, {}, {"Price", "Price"}, {"Price", "State"}} {
		wantNoWhole(t, "not one name", good(), kind.Type{Kind: kind.Ref, Names: names}, api.ErrNone)
	}
}

// In an alias's type the earlier ones are known, also if it is reached from a
// later one, and whatever x knows itself.
func TestP5_3WholeEarlier(t *testing.T) {
	table := kind.Table{Types: []kind.Alias{
		{"a", plain(kind.Bool)}, {"b", ref("c")}, {"c", record(ref("a"))}, {"d", seq(2, ref("d"))}, {"e", ref("b")}, {"f", choice(ref("c"), ref("a"))},
	}}
	c := record(plain(kind.Bool))
	wantWhole(t, "c", table, ref("c"), c)
	wantWhole(t, "f", table, ref("f"), choice(c, plain(kind.Bool)))
	wantNoWhole(t, "a later one", table, ref("b"), api.ErrNone)
	wantNoWhole(t, "itself", table, ref("d"), api.ErrNone)
	wantNoWhole(t, "one of a later one", table, ref("e"), api.ErrNone)
	wantNoWhole(t, "a known one, then one of a later one", table, record(ref("c"), ref("e")), api.ErrNone)
	// In any table: what comes first counts.
	table = kind.Table{Types: []kind.Alias{{"a", plain(kind.Bool)}, {"a", plain(kind.Card)}, {"b", ref("a")}, {"b", ref("b")}, {"a", text(1)}}}
	wantWhole(t, "a twice", table, ref("a"), plain(kind.Bool))
	wantWhole(t, "b twice", table, ref("b"), plain(kind.Bool))
}

// Levels: of types in one another, of Refs to Refs, and of both.
func TestP5_3WholeLevels(t *testing.T) {
	for n := range 30 {
		want := api.OK
		if n >= 20 {
			want = api.ErrKind
		}
		for _, c := range []struct {
			what  string
			table kind.Table
			x     kind.Type
			want  kind.Type
		}{
			{"types", kind.Table{}, nested(n, plain(kind.Bool)), nested(n, plain(kind.Bool))},
			{"types, an enum", kind.Table{}, nested(n, enum("a")), nested(n, enum("a"))},
			{"Refs", chain(max(n, 1), text(3)), chain(n+1, text(3)).Types[n].Type, text(3)},
			{"types and a Ref", chain(1, text(4)), nested(n-1, ref("a")), nested(n-1, text(4))},
			{"a Ref, then types", chain(1, nested(n-1, text(5))), ref("a"), nested(n-1, text(5))},
			{"types, a Ref and types", chain(1, nested(n/2, text(6))), nested(n-1-n/2, ref("a")), nested(n/2, text(6))},
		} {
			if n == 0 && c.what != "types" && c.what != "types, an enum" && c.what != "Refs" {
				continue // not even the Ref
			}
			if strings.HasPrefix(c.what, "types, a Ref") {
				c.want = nested(n-1-n/2, c.want)
			}
			if want == api.OK {
				wantWhole(t, c.what, c.table, c.x, c.want)
			} else {
				wantNoWhole(t, c.what, c.table, c.x, want)
			}
		}
	}
}

// At level 20 a Ref may be known or not; at level 21 nothing is looked at.
func TestP5_3WholeLevelFirst(t *testing.T) {
	table := chain(1, plain(kind.Bool))
	wantWhole(t, "a Ref at level 19", table, nested(18, ref("a")), nested(18, plain(kind.Bool)))
	wantNoWhole(t, "a Ref at level 20", table, nested(19, ref("a")), api.ErrKind)
	wantNoWhole(t, "an unknown Ref at level 20", table, nested(19, ref("none")), api.ErrNone)
	wantNoWhole(t, "an unknown Ref at level 21", table, nested(20, ref("none")), api.ErrKind)
	wantNoWhole(t, "a Ref to an unknown one at level 20", chain(1, ref("none")), nested(18, ref("a")), api.ErrNone)
	wantNoWhole(t, "a Ref to an unknown one at level 21", chain(1, ref("none")), nested(19, ref("a")), api.ErrKind)
}

// bools returns a Record of n Bools, which is n + 1 types.
func bools(n int) kind.Type { return record(repeat(n, plain(kind.Bool))...) }

func TestP5_3WholeSize(t *testing.T) {
	for n := 190; n < 210; n++ {
		table := kind.Table{Types: []kind.Alias{{"a", plain(kind.Bool)}, {"b", bools(n - 1)}, {"c", ref("b")}, {"d", bools(98)}}}
		for what, pair := range map[string][2]kind.Type{
			"one record":     {bools(n - 1), bools(n - 1)},
			"Refs":           {record(repeat(n-1, ref("a"))...), bools(n - 1)},
			"an alias":       {ref("b"), bools(n - 1)},
			"alias's alias":  {ref("c"), bools(n - 1)},
			"two records":    {record(bools(98), bools(n-101)), record(bools(98), bools(n-101))},
			"alias, record":  {choice(ref("d"), bools(n-101)), choice(bools(98), bools(n-101))},
			"record, alias":  {choice(bools(n-101), ref("d")), choice(bools(n-101), bools(98))},
			"levels":         {nested(10, bools(n-11)), nested(10, bools(n-11))},
			"one more level": {nested(18, bools(n-19)), nested(18, bools(n-19))},
		} {
			if n <= 200 {
				wantWhole(t, what, table, pair[0], pair[1])
			} else {
				wantNoWhole(t, what, table, pair[0], api.ErrSize)
			}
		}
	}
}

// Of a right type: 200 types, and one more.
func TestP5_3WholeSizeRight(t *testing.T) {
	twelve := bools(12)
	x := record(append(repeat(11, twelve), record(repeat(8, enum("a"))...))...) // 1 + 11 * 13 + 9
	x.Of[11].Of[7] = bools(12)                                                  // 165
	x.Of[11].Of[6] = bools(12)                                                  // 177
	x.Of[11].Of[5] = bools(12)                                                  // 189
	x.Of[11].Of[4] = bools(11)                                                  // 200
	wantWhole(t, "200", kind.Table{}, x, x)
	table := kind.Table{Name: "t", Procs: []kind.Proc{{Name: "p", Takes: x, Answers: x, Timeout: 1}}}
	wantCheck(t, "200", table, api.OK)
	y := clone(x)
	y.Of[11].Of[4] = bools(12)
	wantNoWhole(t, "201", kind.Table{}, y, api.ErrSize)
	table.Procs[0].Answers = y
	wantCheck(t, "201", table, api.ErrSize)
	// An alias as often as it is used.
	table = kind.Table{Name: "t", Types: []kind.Alias{{"a", twelve}, {"b", record(repeat(12, ref("a"))...)}},
		Procs: []kind.Proc{{Name: "p", Takes: record(repeat(12, ref("a"))...), Timeout: 1}}}
	wantCheck(t, "157", table, api.OK)
	table.Procs[0].Answers = record(ref("b"), ref("a"), ref("a"), ref("a"))
	wantCheck(t, "197", table, api.OK)
	table.Procs[0].Answers = record(ref("b"), ref("a"), ref("a"), bools(14))
	wantCheck(t, "not right", table, api.ErrMany)
	table.Procs[0].Answers = record(ref("b"), ref("a"), ref("a"), ref("a"), ref("a"))
	wantCheck(t, "210", table, api.ErrSize)
}

// The first error on the way from the outermost type, part by part.
func TestP5_3WholeFirst(t *testing.T) {
	table := chain(1, plain(kind.Bool))
	none, deep, many := ref("none"), nested(19, plain(kind.Bool)), bools(250)
	for what, c := range map[string]struct {
		x    kind.Type
		want api.Errno
	}{
		"none, deep, many":             {record(none, deep, many), api.ErrNone},
		"none, many, deep":             {record(none, many, deep), api.ErrNone},
		"deep, none, many":             {record(deep, none, many), api.ErrKind},
		"deep, many, none":             {record(deep, many, none), api.ErrKind},
		"many, none, deep":             {record(many, none, deep), api.ErrSize},
		"many, deep, none":             {record(many, deep, none), api.ErrSize},
		"none far inside, then deep":   {record(nested(15, none), deep), api.ErrNone},
		"deep, then none near outside": {record(record(deep), none), api.ErrKind},
		"none behind 199 types":        {record(append(repeat(199, plain(kind.Bool)), none)...), api.ErrNone},
		"none behind 200 types":        {record(append(repeat(200, plain(kind.Bool)), none)...), api.ErrSize},
		"none behind 199 Refs":         {record(append(repeat(199, ref("a")), none)...), api.ErrNone},
		"none behind 200 Refs":         {record(append(repeat(200, ref("a")), none)...), api.ErrSize},
		"deep behind 180 types":        {record(append(repeat(179, plain(kind.Bool)), nested(19, plain(kind.Bool)))...), api.ErrKind},
		"deep behind 181 types":        {record(append(repeat(180, plain(kind.Bool)), nested(19, plain(kind.Bool)))...), api.ErrKind},
		"deep behind 182 types":        {record(append(repeat(181, plain(kind.Bool)), nested(19, plain(kind.Bool)))...), api.ErrSize},
		"a known Ref at 200 types":     {record(append(repeat(199, plain(kind.Bool)), ref("a"))...), api.ErrSize},
		"level 21, when there are 200": {record(append(repeat(180, plain(kind.Bool)), nested(18, seq(1, none)))...), api.ErrKind},
		"unknown, when there are 200":  {record(append(repeat(180, plain(kind.Bool)), nested(18, none))...), api.ErrNone},
		"a known Ref at level 20":      {nested(19, ref("a")), api.ErrKind},
	} {
		wantNoWhole(t, what, table, c.x, c.want)
	}
}

// Types that are not right stay as they are, but for their Refs.
func TestP5_3WholeNotRight(t *testing.T) {
	table := kind.Table{Types: []kind.Alias{{"a", text(99)}, {"", plain(kind.Real)}, {"b", kind.Type{Kind: 77, Most: -4, Names: numbered(3)}}}}
	for k := range 256 {
		if kind.Kind(k) == kind.Ref {
			continue
		}
		x := kind.Type{Kind: kind.Kind(k), Most: -k, Names: []string{"", "1"}, Of: []kind.Type{ref("a"), plain(200), ref(""), ref("b")}}
		want := clone(x)
		want.Of = []kind.Type{text(99), plain(200), plain(kind.Real), table.Types[2].Type}
		wantWhole(t, "a type that is not right", table, x, want)
	}
	// What a Ref has but its name does not matter.
	x := kind.Type{Kind: kind.Ref, Most: 5, Names: []string{"a"}, Of: []kind.Type{ref("none")}}
	wantWhole(t, "a Ref that is not right", table, x, text(99))
	// Names do not count.
	wantWhole(t, "names", table, kind.Type{Kind: kind.Enum, Names: numbered(500)}, kind.Type{Kind: kind.Enum, Names: numbered(500)})
}

// step is a type that is still to be visited, at some level, where so many
// aliases are known.
type step struct {
	x            kind.Type
	level, known int
}

// whole is what the chapter says of Whole, as a list of types, the outermost
// first, each without its parts.
func whole(table kind.Table, x kind.Type) ([]kind.Type, api.Errno) {
	var list []kind.Type
	open := []step{{x, 1, len(table.Types)}}
	for len(open) > 0 {
		s := open[0]
		open = open[1:]
		if s.level > 20 {
			return nil, api.ErrKind
		}
		if s.x.Kind == kind.Ref {
			at := 0
			for at < s.known && (len(s.x.Names) != 1 || table.Types[at].Name != s.x.Names[0]) {
				at++
			}
			if at == s.known {
				return nil, api.ErrNone
			}
			open = slices.Insert(open, 0, step{table.Types[at].Type, s.level + 1, at})
			continue
		}
		list = append(list, head(s.x))
		if len(list) > 200 {
			return nil, api.ErrSize
		}
		for i, part := range s.x.Of {
			open = slices.Insert(open, i, step{part, s.level + 1, s.known})
		}
	}
	return list, api.OK
}

// head returns x without its parts, whose number it tells instead of its
// greatest length, which only types without parts keep.
func head(x kind.Type) kind.Type {
	most := x.Most
	if len(x.Of) > 0 {
		most = 1000*most + len(x.Of)
	}
	return kind.Type{Kind: x.Kind, Most: most, Names: x.Names}
}

// heads returns the heads of x and of its parts, the outermost first.
func heads(x kind.Type) []kind.Type {
	list := []kind.Type{head(x)}
	for _, part := range x.Of {
		list = append(list, heads(part)...)
	}
	return list
}

// randomType returns a type of at most so many levels, of Refs to the names
// given and, rarely, to another one.
func randomType(r *rand.Rand, levels int, names []string) kind.Type {
	switch n := r.Intn(10); {
	case n < 3 && len(names) > 0:
		return ref(names[max(r.Intn(len(names)), r.Intn(len(names)))]) // the later, the deeper
	case n == 3 && r.Intn(20) == 0:
		return ref("none")
	case levels < 2:
		return []kind.Type{plain(kind.Bool), plain(kind.Card), plain(kind.Long), plain(kind.Real), text(1 + r.Intn(60)), enum("a b c")}[r.Intn(6)]
	case n < 7:
		return seq(1+r.Intn(60), randomType(r, levels-1, names))
	}
	var of []kind.Type
	for range 1 + r.Intn(4) {
		of = append(of, randomType(r, levels-1, names))
	}
	return parts([]kind.Kind{kind.Record, kind.Choice}[r.Intn(2)], of)
}

// randomTable returns a table of aliases, each of which knows the earlier
// ones, except for some Refs.
func randomTable(r *rand.Rand) kind.Table {
	table := kind.Table{Name: "t"}
	names := numbered(16)
	for i := range r.Intn(17) {
		x := randomType(r, 1+r.Intn(5), names[:i])
		if r.Intn(40) == 0 {
			x = randomType(r, 3, names)
		}
		table.Types = append(table.Types, kind.Alias{Name: names[i], Type: x})
	}
	return table
}

func TestP5_3WholeRandom(t *testing.T) {
	r := rand.New(rand.NewSource(53))
	many := map[api.Errno]int{}
	for range 20000 {
		table := randomTable(r)
		x := randomType(r, 1+r.Intn(7), numbered(len(table.Types)))
		want, e := whole(table, x)
		many[e]++
		if e != api.OK {
			wantNoWhole(t, "a random type", table, x, e)
			continue
		}
		if got, e := table.Whole(x); e != api.OK || !reflect.DeepEqual(heads(got), want) {
			t.Errorf("Whole(%v): %v, error %d", x, got, e)
		}
	}
	for _, e := range []api.Errno{api.OK, api.ErrKind, api.ErrNone, api.ErrSize} {
		if many[e] < 100 {
			t.Errorf("error %d of %d types only", e, many[e])
		}
	}
}
