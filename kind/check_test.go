package kind_test

import (
	"math"
	"slices"
	"strings"
	"testing"

	"prompter/api"
	"prompter/kind"
)

// wantCheck checks what Check returns.
func wantCheck(t *testing.T, what string, table kind.Table, want api.Errno) {
	t.Helper()
	if got := table.Check(); got != want {
		t.Errorf("%s: error %d, want %d", what, got, want)
	}
}

// changed returns good's table after changes.
func changed(changes ...func(t *kind.Table)) kind.Table {
	table := good()
	for _, change := range changes {
		change(&table)
	}
	return table
}

// wantType checks the error of x wherever a type stands in an interface; the
// alias a is known there.
func wantType(t *testing.T, what string, x kind.Type, want api.Errno) {
	t.Helper()
	table := kind.Table{Name: "t", Types: []kind.Alias{{"a", plain(kind.Bool)}, {"b", x}}}
	wantCheck(t, what+" of an alias", table, want)
	table.Types = table.Types[:1]
	table.Procs = []kind.Proc{{Name: "p", Takes: x, Timeout: 1}}
	wantCheck(t, what+" that is taken", table, want)
	table.Procs = []kind.Proc{{Name: "p", Answers: x, Timeout: 1}}
	wantCheck(t, what+" that is answered", table, want)
}

func TestP5_2Good(t *testing.T) {
	wantCheck(t, "good", good(), api.OK)
	wantCheck(t, "an empty one", kind.Table{Name: "a", Number: 1, Version: 2}, api.OK)
	wantCheck(t, "the zero one", kind.Table{}, api.ErrName)
}

// wantShape is the error of a type without parts of its own, as the chapter
// states it.
func wantShape(k kind.Kind, most, names, of int) api.Errno {
	lowest, highest := 0, 0
	if k == kind.Text || k == kind.Seq {
		lowest, highest = 1, 60
	}
	wantNames, wantOf := 0, 0
	switch k {
	case kind.Seq:
		wantOf = 1
	case kind.Ref:
		wantNames = 1
	case kind.Enum:
		wantNames = names
	case kind.Record, kind.Choice:
		wantNames, wantOf = names, names
	}
	switch {
	case k >= kind.Kinds:
		return api.ErrKind
	case most < lowest || most > highest:
		return api.ErrRange
	case names != wantNames || of != wantOf:
		return api.ErrForm
	case k >= kind.Record && k <= kind.Choice && (names == 0 || names > 12):
		return api.ErrMany
	}
	return api.OK
}

// Every kind, with every number of names and of parts, and every Most.
func TestP5_2Shapes(t *testing.T) {
	for _, k := range []kind.Kind{0, 1, 2, 3, 4, 5, 6, 7, 8, 9, 10, 11, 20, 127, 128, 255} {
		for _, most := range []int{math.MinInt, -60, -1, 0, 1, 2, 30, 59, 60, 61, 1 << 32, 1<<32 + 1, math.MaxInt} {
			for names := range 15 {
				for of := range 15 {
					x := kind.Type{Kind: k, Most: most, Names: numbered(names), Of: repeat(of, plain(kind.Bool))}
					wantType(t, "a type", x, wantShape(k, most, names, of))
					if t.Failed() {
						t.Fatalf("it was %v", x)
					}
				}
			}
		}
	}
}

func TestP5_2MostOf(t *testing.T) {
	for most := -3; most <= 65; most++ {
		want := api.OK
		if most < 1 || most > 60 {
			want = api.ErrRange
		}
		wantType(t, "a text", text(most), want)
		wantType(t, "a sequence", seq(most, plain(kind.Real)), want)
	}
}

// ofNames returns a type of each kind that has names, with these.
func ofNames(names []string) []kind.Type {
	parts := repeat(len(names), plain(kind.Long))
	return []kind.Type{
		{Kind: kind.Record, Names: names, Of: parts},
		{Kind: kind.Enum, Names: names},
		{Kind: kind.Choice, Names: names, Of: parts},
	}
}

func TestP5_2Names(t *testing.T) {
	longest := strings.Repeat("n", 20)
	cases := []struct {
		names string
		want  api.Errno
	}{
		{"a", api.OK}, {longest, api.OK}, {longest + "n", api.ErrName}, {"1", api.ErrName}, {"seq", api.ErrName},
		{"a b", api.OK}, {"a A", api.OK}, {"a aa", api.OK}, {"a a", api.ErrTwice}, {"b a a", api.ErrTwice}, {"a b a", api.ErrTwice},
		{"a a 1", api.ErrTwice}, {"a 1 a", api.ErrName}, {"1 a a", api.ErrName}, {"1 1", api.ErrName}, {"a b 1 1", api.ErrName},
		{"a b c d e f g h i j k l", api.OK}, {"a b c d e f g h i j k a", api.ErrTwice}, {"a b c d e f g h i j k k", api.ErrTwice},
		{"a b c d e f g h i j k of", api.ErrName}, {"a b c d e f g h i j k l m", api.ErrMany},
		{"1 2 3 4 5 6 7 8 9 0 1 2 3", api.ErrMany}, {"a a a a a a a a a a a a a", api.ErrMany}, {"", api.ErrMany},
		{"t p b Record", api.OK}, // other things' names
	}
	for _, c := range cases {
		for _, x := range ofNames(strings.Fields(c.names)) {
			wantType(t, c.names, x, c.want)
		}
	}
	for _, x := range ofNames([]string{"a", ""}) {
		wantType(t, "an empty name", x, api.ErrName)
	}
	for _, s := range strings.Fields(words) {
		for _, x := range ofNames([]string{"a", s}) {
			wantType(t, s, x, api.ErrName)
		}
	}
}

// Any two places of twelve names.
func TestP5_2NamesTwice(t *testing.T) {
	for j := range 12 {
		for i := range j {
			names := numbered(12)
			names[j] = names[i]
			for _, x := range ofNames(names) {
				wantType(t, "a name twice", x, api.ErrTwice)
			}
			names[i] = "0"
			for _, x := range ofNames(names) {
				wantType(t, "no name", x, api.ErrName)
			}
		}
	}
}

// Types in one another may have the same names.
func TestP5_2NamesNested(t *testing.T) {
	wantType(t, "a record", record(record(enum("a b")), choice(enum("a b"), enum("a"))), api.OK)
}

func TestP5_2Depth(t *testing.T) {
	for _, inner := range []kind.Type{plain(kind.Bool), plain(kind.Card), plain(kind.Long), plain(kind.Real), text(60), enum("a"), ref("a")} {
		for n := range 12 {
			want := api.OK
			if n > 4 {
				want = api.ErrKind
			}
			wantType(t, "a type", nested(n, inner), want)
			wantType(t, "a type", record(plain(kind.Bool), nested(n, inner)), depthError(n+2))
			wantType(t, "a type", choice(nested(n, inner), nested(1, inner)), depthError(n+2))
		}
	}
}

// depthError is the error of a type with so many levels, at least three.
func depthError(levels int) api.Errno {
	if levels > 5 {
		return api.ErrKind
	}
	return api.OK
}

// What is nested too deep has no other error.
func TestP5_2DepthFirst(t *testing.T) {
	for what, x := range bad() {
		wantType(t, what, nested(5, x), api.ErrKind)
		wantType(t, what, nested(200, x), api.ErrKind)
	}
	// But there may be another error before.
	wantType(t, "an unknown name", record(ref("none"), nested(5, plain(kind.Bool))), api.ErrNone)
	wantType(t, "too deep", record(nested(5, plain(kind.Bool)), ref("none")), api.ErrKind)
	// An alias starts anew.
	table := kind.Table{Name: "t", Types: []kind.Alias{{"a", nested(4, plain(kind.Bool))}, {"b", nested(4, ref("a"))}, {"c", nested(4, ref("b"))}}}
	wantCheck(t, "aliases", table, api.OK)
}

// bad returns types with an error.
func bad() map[string]kind.Type {
	return map[string]kind.Type{
		"ErrKind":  plain(kind.Kinds),
		"ErrRange": text(0),
		"ErrForm":  {Kind: kind.Seq, Most: 1},
		"ErrMany":  enum(""),
		"ErrName":  enum("type"),
		"ErrTwice": enum("a a"),
		"ErrNone":  ref("none"),
	}
}

// errnos are the errors of bad's types.
func errnos() map[string]api.Errno {
	return map[string]api.Errno{"ErrKind": api.ErrKind, "ErrRange": api.ErrRange, "ErrForm": api.ErrForm, "ErrMany": api.ErrMany,
		"ErrName": api.ErrName, "ErrTwice": api.ErrTwice, "ErrNone": api.ErrNone}
}

// The errors of parts, from the first part to the last one, each at all levels.
func TestP5_2Parts(t *testing.T) {
	for what, x := range bad() {
		for n := range 5 {
			wantType(t, what, nested(n, x), errnos()[what])
		}
		for at := range 12 {
			of := repeat(12, plain(kind.Card))
			of[at] = x
			wantType(t, what, record(of...), errnos()[what])
			wantType(t, what, choice(of...), errnos()[what])
		}
		for other, y := range bad() {
			wantType(t, what+" before "+other, record(x, y), errnos()[what])
			wantType(t, what+" before "+other, record(plain(kind.Bool), nested(3, x), plain(kind.Bool), y), errnos()[what])
			wantType(t, what+" before "+other, choice(record(plain(kind.Bool), x), y), errnos()[what])
		}
	}
}

// Of a type with all errors the first is returned; without it, the next.
func TestP5_2OrderInType(t *testing.T) {
	x := kind.Type{Kind: kind.Kinds, Most: 61, Names: strings.Fields("a b c d e f g h i j k 1 k"), Of: repeat(12, ref("none"))}
	wantType(t, "kind", x, api.ErrKind)
	for _, k := range []kind.Kind{kind.Record, kind.Choice} {
		x := clone(x)
		x.Kind = k
		wantType(t, "most", x, api.ErrRange)
		x.Most = 0
		wantType(t, "form", x, api.ErrForm)
		x.Of = append(x.Of, ref("none"))
		wantType(t, "many", x, api.ErrMany)
		x.Names, x.Of = x.Names[1:], x.Of[1:]
		wantType(t, "name", x, api.ErrName)
		x.Names[10] = "l"
		wantType(t, "twice", x, api.ErrTwice)
		x.Names[11] = "m"
		wantType(t, "part", x, api.ErrNone)
	}
	y := kind.Type{Kind: kind.Enum, Most: 1, Of: repeat(1, ref("none"))}
	wantType(t, "most", y, api.ErrRange)
	y.Most = 0
	wantType(t, "form", y, api.ErrForm)
	y.Of = nil
	wantType(t, "many", y, api.ErrMany)
	z := kind.Type{Kind: kind.Seq, Most: 0, Names: numbered(1), Of: repeat(1, ref("none"))}
	wantType(t, "most", z, api.ErrRange)
	z.Most = 1
	wantType(t, "form", z, api.ErrForm)
	z.Names = nil
	wantType(t, "part", z, api.ErrNone)
}

// A Ref is known by an alias's name, and by nothing else's.
func TestP5_2Refs(t *testing.T) {
	for _, name := range []string{"", "A", "aa", "t", "p", "none", "bool", "1", " a", strings.Repeat("a", 21)} {
		wantType(t, name, ref(name), api.ErrNone)
	}
	for what, x := range map[string]kind.Type{
		"no name":   {Kind: kind.Ref},
		"two names": {Kind: kind.Ref, Names: []string{"a", "a"}},
		"a part":    {Kind: kind.Ref, Names: []string{"a"}, Of: repeat(1, plain(kind.Bool))},
	} {
		wantType(t, what, x, api.ErrForm)
	}
	wantType(t, "a length", kind.Type{Kind: kind.Ref, Most: 1, Names: []string{"a"}}, api.ErrRange)
	for _, name := range []string{"Shop", "Unknown", "Gone", "find", "count"} {
		wantCheck(t, name, changed(func(t *kind.Table) { t.Procs[2].Answers = ref(name) }), api.ErrNone)
		wantCheck(t, name, changed(func(t *kind.Table) { t.Types[2].Type = ref(name) }), api.ErrNone)
	}
}

// An alias's type knows the earlier ones; a procedure's knows all.
func TestP5_2RefsEarlier(t *testing.T) {
	names := numbered(16)
	var aliases []kind.Alias
	for _, name := range names {
		aliases = append(aliases, kind.Alias{Name: name, Type: plain(kind.Card)})
	}
	for i := range names {
		for j := range names {
			want := api.OK
			if j >= i {
				want = api.ErrNone
			}
			types := slices.Clone(aliases)
			types[i].Type = record(ref(names[j]))
			wantCheck(t, names[i]+" of "+names[j], kind.Table{Name: "t", Types: types}, want)
		}
		table := kind.Table{Name: "t", Types: aliases, Procs: []kind.Proc{{Name: "P", Takes: seq(3, ref(names[i])), Answers: ref(names[15-i]), Timeout: 1}}}
		wantCheck(t, "a procedure of "+names[i], table, api.OK)
	}
}

func TestP5_2Numbers(t *testing.T) {
	for n, want := range map[int]api.Errno{
		math.MinInt: api.ErrRange, -65536: api.ErrRange, -1: api.ErrRange, 2: api.OK, 65534: api.OK, 65535: api.OK,
		65536: api.ErrRange, 1 << 32: api.ErrRange, 1<<32 + 2: api.ErrRange, math.MaxInt: api.ErrRange,
	} {
		wantCheck(t, "a number", changed(func(t *kind.Table) { t.Number = n }), want)
		wantCheck(t, "a version", changed(func(t *kind.Table) { t.Version = n }), want)
		for i := range 3 {
			table := full(3, 3, 3) // whose numbers are 3 to 8
			table.Faults[i].Number = n
			wantCheck(t, "a fault", table, want)
			table = full(3, 3, 3)
			table.Procs[i].Number = n
			wantCheck(t, "a procedure", table, want)
		}
	}
	for n := range 3 {
		wantCheck(t, "small ones", kind.Table{Name: "a", Number: n, Version: n, Faults: []kind.Fault{{"f", n}},
			Procs: []kind.Proc{{Name: "p", Number: n, Timeout: 1}}}, api.OK) // a fault and a procedure may have one number
	}
}

func TestP5_2TimeoutsCollators(t *testing.T) {
	for n, want := range map[int]api.Errno{
		math.MinInt: api.ErrRange, -1: api.ErrRange, 0: api.ErrRange, 1: api.OK, 2: api.OK, 999: api.OK, 1000: api.OK,
		1001: api.ErrRange, 1<<32 + 1: api.ErrRange, math.MaxInt: api.ErrRange,
	} {
		for i := range 3 {
			wantCheck(t, "a timeout", changed(func(t *kind.Table) { t.Procs[i].Timeout = n }), want)
		}
	}
	for n := range 256 {
		want := api.OK
		if n > 2 {
			want = api.ErrRange
		}
		for i := range 3 {
			wantCheck(t, "a collator", changed(func(t *kind.Table) { t.Procs[i].Collate = kind.Collator(n) }), want)
		}
	}
}

// full returns a table with so many aliases, faults and procedures.
func full(types, faults, procs int) kind.Table {
	table := kind.Table{Name: "t"}
	names := numbered(types + faults + procs)
	for i, name := range names {
		switch {
		case i < types:
			table.Types = append(table.Types, kind.Alias{Name: name, Type: plain(kind.Bool)})
		case i < types+faults:
			table.Faults = append(table.Faults, kind.Fault{Name: name, Number: i})
		default:
			table.Procs = append(table.Procs, kind.Proc{Name: name, Number: i, Timeout: 1})
		}
	}
	return table
}

func TestP5_2Many(t *testing.T) {
	for _, n := range []int{0, 1, 15, 16, 17, 18, 32, 1000} {
		want := api.OK
		if n > 16 {
			want = api.ErrMany
		}
		wantCheck(t, "aliases", full(n, 2, 2), want)
		wantCheck(t, "faults", full(2, n, 2), want)
		wantCheck(t, "procedures", full(2, 2, n), want)
		wantCheck(t, "all", full(n, n, n), want)
	}
	// Whatever is in them.
	wantCheck(t, "zero aliases", kind.Table{Name: "t", Types: make([]kind.Alias, 17)}, api.ErrMany)
	wantCheck(t, "zero faults", kind.Table{Name: "t", Faults: make([]kind.Fault, 17), Types: make([]kind.Alias, 16)}, api.ErrMany)
	wantCheck(t, "zero procedures", kind.Table{Name: "t", Procs: make([]kind.Proc, 17), Faults: make([]kind.Fault, 16)}, api.ErrMany)
	wantCheck(t, "16 zero aliases", kind.Table{Name: "t", Types: make([]kind.Alias, 16)}, api.ErrName)
}

// naming returns pointers to the names of a table, in Check's order.
func naming(t *kind.Table) []*string {
	var list []*string
	for i := range t.Types {
		list = append(list, &t.Types[i].Name)
	}
	for i := range t.Faults {
		list = append(list, &t.Faults[i].Name)
	}
	for i := range t.Procs {
		list = append(list, &t.Procs[i].Name)
	}
	return list
}

// Any two of the names in a table, and any one.
func TestP5_2NamesInTable(t *testing.T) {
	for j := range 9 {
		for i := range j {
			table := full(3, 3, 3)
			names := naming(&table)
			*names[j] = *names[i]
			wantCheck(t, "a name twice", table, api.ErrTwice)
			*names[i], *names[j] = "5", "5"
			wantCheck(t, "no name twice", table, api.ErrName)
		}
		for _, s := range append(strings.Fields(words), "", "1", "a b", "\u00e9", strings.Repeat("a", 21)) {
			table := full(3, 3, 3)
			*naming(&table)[j] = s
			wantCheck(t, s, table, api.ErrName)
			table = full(3, 3, 3)
			table.Name = s
			wantCheck(t, s, table, api.ErrName)
		}
		table := full(3, 3, 3)
		*naming(&table)[j] = strings.Repeat("a", 20)
		wantCheck(t, "20 letters", table, api.OK)
		*naming(&table)[j] = table.Name // which is none of those that may not occur again
		wantCheck(t, "the interface's name", table, api.OK)
		table.Name = "n1"
		wantCheck(t, "another name", table, api.OK)
	}
}

// Any two of the numbers of faults, and of procedures.
func TestP5_2NumbersTwice(t *testing.T) {
	for j := range 16 {
		for i := range j {
			table := full(0, 16, 16)
			table.Faults[j].Number = table.Faults[i].Number
			wantCheck(t, "a fault's number", table, api.ErrTwice)
			table = full(0, 16, 16)
			table.Procs[j].Number = table.Procs[i].Number
			wantCheck(t, "a procedure's number", table, api.ErrTwice)
			table = full(0, 16, 16)
			table.Procs[j].Number = table.Faults[i].Number
			wantCheck(t, "a fault's and a procedure's number", table, api.OK)
		}
	}
}

// wide is right, but it has too many parts.
func wide() kind.Type {
	return record(repeat(12, record(repeat(12, seq(1, plain(kind.Bool)))...))...)
}

// errors are changes of a table, each with its error, in the order in which
// Check finds them.
func errors() []struct {
	what   string
	want   api.Errno
	change func(t *kind.Table)
} {
	return []struct {
		what   string
		want   api.Errno
		change func(t *kind.Table)
	}{
		{"name", api.ErrName, func(t *kind.Table) { t.Name = "proc" }},
		{"number", api.ErrRange, func(t *kind.Table) { t.Number = 65536 }},
		{"types", api.ErrMany, func(t *kind.Table) { t.Types = append(t.Types, make([]kind.Alias, 14)...) }},
		{"alias 0 name", api.ErrName, func(t *kind.Table) { t.Types[0].Name = "a-b" }},
		{"alias 0 type", api.ErrKind, func(t *kind.Table) { t.Types[0].Type = nested(5, text(0)) }},
		{"alias 1 name", api.ErrTwice, func(t *kind.Table) { t.Types[1].Name = t.Types[0].Name }},
		{"alias 1 type", api.ErrNone, func(t *kind.Table) { t.Types[1].Type = ref("State") }},
		{"alias 2 name", api.ErrName, func(t *kind.Table) { t.Types[2].Name = "all" }},
		{"alias 2 type", api.ErrRange, func(t *kind.Table) { t.Types[2].Type = text(61) }},
		{"fault 0 name", api.ErrTwice, func(t *kind.Table) { t.Faults[0].Name = "Item" }},
		{"fault 0 number", api.ErrRange, func(t *kind.Table) { t.Faults[0].Number = -1 }},
		{"fault 1 name", api.ErrName, func(t *kind.Table) { t.Faults[1].Name = "" }},
		{"fault 1 number", api.ErrTwice, func(t *kind.Table) { t.Faults[1].Number = t.Faults[0].Number }},
		{"fault 2 number", api.ErrRange, func(t *kind.Table) { t.Faults[2].Number = 65536 }},
		{"proc 0 name", api.ErrTwice, func(t *kind.Table) { t.Procs[0].Name = "Gone" }},
		{"proc 0 timeout", api.ErrRange, func(t *kind.Table) { t.Procs[0].Timeout = 0 }},
		{"proc 0 takes", api.ErrName, func(t *kind.Table) { t.Procs[0].Takes = record(wide(), enum("1")) }},
		{"proc 0 answers", api.ErrMany, func(t *kind.Table) { t.Procs[0].Answers = record(enum("")) }},
		{"proc 1 name", api.ErrTwice, func(t *kind.Table) { t.Procs[1].Name = t.Procs[0].Name }},
		{"proc 1 collate", api.ErrRange, func(t *kind.Table) { t.Procs[1].Collate = kind.Collators }},
		{"proc 1 number", api.ErrTwice, func(t *kind.Table) { t.Procs[1].Number = t.Procs[0].Number }},
		{"proc 1 takes", api.ErrSize, func(t *kind.Table) { t.Procs[1].Takes = wide() }},
		{"proc 1 answers", api.ErrForm, func(t *kind.Table) { t.Procs[1].Answers = record(kind.Type{Kind: kind.Ref}) }},
		{"proc 2 number", api.ErrRange, func(t *kind.Table) { t.Procs[2].Number = -1 }},
		{"proc 2 takes", api.ErrNone, func(t *kind.Table) { t.Procs[2].Takes = ref("none") }},
		{"proc 2 answers", api.ErrSize, func(t *kind.Table) { t.Procs[2].Answers = choice(wide()) }},
	}
}

// Alone, with every later one, and with all later ones.
func TestP5_2Order(t *testing.T) {
	list := errors()
	for i, first := range list {
		wantCheck(t, first.what, changed(first.change), first.want)
		all := good()
		for j := len(list) - 1; j >= i; j-- {
			list[j].change(&all)
			if j > i && list[j].want != first.want {
				wantCheck(t, first.what+" before "+list[j].what, changed(list[j].change, first.change), first.want)
			}
		}
		wantCheck(t, first.what+" before all", all, first.want)
	}
}

// The errors of one fault or procedure, in order.
func TestP5_2OrderInPart(t *testing.T) {
	table := good()
	f, p := &table.Faults[2], &table.Procs[2]
	*f = kind.Fault{Name: "error", Number: 65536}
	wantCheck(t, "name", table, api.ErrName)
	f.Name = "Sold"
	wantCheck(t, "name twice", table, api.ErrTwice)
	f.Name = "Free"
	wantCheck(t, "number", table, api.ErrRange)
	f.Number = 65535
	wantCheck(t, "number twice", table, api.ErrTwice)
	f.Number = 65534
	*p = kind.Proc{"proc", -1, record(wide(), ref("none")), nested(5, wide()), kind.Collators, 1001}
	wantCheck(t, "name", table, api.ErrName)
	p.Name = "sell"
	wantCheck(t, "name twice", table, api.ErrTwice)
	p.Name = "buy"
	wantCheck(t, "number, timeout, collator", table, api.ErrRange)
	p.Number = 0
	wantCheck(t, "timeout, collator", table, api.ErrRange)
	p.Timeout = 1000
	wantCheck(t, "collator", table, api.ErrRange)
	p.Collate = kind.All
	wantCheck(t, "number twice", table, api.ErrTwice)
	p.Number = 1
	wantCheck(t, "taken", table, api.ErrNone)
	p.Takes = wide()
	wantCheck(t, "taken whole", table, api.ErrSize)
	p.Takes = plain(kind.Bool)
	wantCheck(t, "answered", table, api.ErrKind)
	p.Answers = wide()
	wantCheck(t, "answered whole", table, api.ErrSize)
	p.Answers = plain(kind.Bool)
	wantCheck(t, "nothing", table, api.OK)
}

// deepAliases returns aliases that stand for types of 5, 10, 15 and so on
// levels.
func deepAliases(n int) []kind.Alias {
	var list []kind.Alias
	x := nested(4, plain(kind.Bool))
	for _, name := range numbered(n) {
		list = append(list, kind.Alias{Name: name, Type: x})
		x = nested(4, ref(name))
	}
	return list
}

// Whole's errors are those of procedures alone: an alias that none of them
// uses may stand for anything.
func TestP5_2Whole(t *testing.T) {
	table := kind.Table{Name: "t", Types: append(deepAliases(15), kind.Alias{Name: "wide", Type: wide()})}
	wantCheck(t, "no procedure", table, api.OK)
	for _, c := range []struct {
		what string
		x    kind.Type
		want api.Errno
	}{
		{"19 levels", nested(3, ref("c")), api.OK},
		{"20 levels", table.Types[3].Type, api.OK},
		{"21 levels", ref("d"), api.ErrKind},
		{"21 levels", seq(1, nested(4, ref("c"))), api.ErrKind}, // nested too deep itself
		{"many levels", ref("o"), api.ErrKind},
		{"many parts", ref("wide"), api.ErrSize},
		{"many levels, then parts", record(ref("o"), ref("wide")), api.ErrKind},
		{"many parts, then levels", record(ref("wide"), ref("o")), api.ErrSize},
	} {
		table.Procs = []kind.Proc{{Name: "p", Takes: c.x, Timeout: 1}}
		wantCheck(t, c.what+" taken", table, c.want)
		table.Procs = []kind.Proc{{Name: "p", Answers: c.x, Timeout: 1}}
		wantCheck(t, c.what+" answered", table, c.want)
	}
}
