package parse_test

import (
	"math/rand"
	"reflect"
	"strconv"
	"strings"
	"testing"

	"prompter/api"
	"prompter/kind"
	"prompter/parse"
)

// shop is an interface with every kind of type, aliases, faults, procedures
// and all collators; shopTable returns what it defines.
const shop = `# all that there is
program Shop 1 version 2 {
	type Price = card;
	type State = enum { open, closed };
	type Item = record { name: text[60], price: Price, tags: seq[5] of text[8] };

	error Sold = 0;
	error Gone = 65535;

	proc find = 0 (Item) returns choice { found: Item, none: bool } collate first timeout 1;
	proc set = 65535 (record { a: long, b: real, c: State }) returns State collate majority timeout 1000;
	proc ask = 9 (choice { x: enum { y } }) returns seq[60] of seq[1] of Price collate all timeout 40; # the last
}
`

func shopTable() kind.Table {
	price, state := ref("Price"), ref("State")
	return kind.Table{
		Name: "Shop", Number: 1, Version: 2,
		Types: []kind.Alias{
			alias("Price", plain(kind.Card)),
			alias("State", enum("open closed")),
			alias("Item", fields(kind.Record, "name price tags", text(60), price, seq(5, text(8)))),
		},
		Faults: []kind.Fault{{Name: "Sold"}, {Name: "Gone", Number: 65535}},
		Procs: []kind.Proc{
			proc("find", 0, ref("Item"), fields(kind.Choice, "found none", ref("Item"), plain(kind.Bool)), kind.First, 1),
			proc("set", 65535, fields(kind.Record, "a b c", plain(kind.Long), plain(kind.Real), state), state, kind.Majority, 1000),
			proc("ask", 9, fields(kind.Choice, "x", enum("y")), seq(60, seq(1, price)), kind.All, 40),
		},
	}
}

func plain(k kind.Kind) kind.Type { return kind.Type{Kind: k} }
func text(most int) kind.Type     { return kind.Type{Kind: kind.Text, Most: most} }
func ref(name string) kind.Type   { return kind.Type{Kind: kind.Ref, Names: []string{name}} }
func enum(names string) kind.Type {
	return kind.Type{Kind: kind.Enum, Names: strings.Fields(names)}
}
func seq(most int, x kind.Type) kind.Type {
	return kind.Type{Kind: kind.Seq, Most: most, Of: []kind.Type{x}}
}
func fields(k kind.Kind, names string, of ...kind.Type) kind.Type {
	return kind.Type{Kind: k, Names: strings.Fields(names), Of: of}
}

func alias(name string, x kind.Type) kind.Alias { return kind.Alias{Name: name, Type: x} }
func proc(name string, number int, takes, answers kind.Type, c kind.Collator, timeout int) kind.Proc {
	return kind.Proc{Name: name, Number: number, Takes: takes, Answers: answers, Collate: c, Timeout: timeout}
}

// wantTable checks that Parse(s) returns this table, and 0.
func wantTable(t *testing.T, s string, want kind.Table) {
	t.Helper()
	got, at, e := parse.Parse(s)
	if e != api.OK || at != 0 || !kind.Alike(got, want) {
		t.Errorf("Parse(%q): %v, error %d at %d, want %v", s, got, e, at, want)
	}
}

// wantError checks that Parse(s) returns this error and offset, and no table.
func wantError(t *testing.T, s string, at int, e api.Errno) {
	t.Helper()
	table, gotAt, got := parse.Parse(s)
	if gotAt != at || got != e || !reflect.DeepEqual(table, kind.Table{}) {
		t.Errorf("Parse(%q): %v, error %d at %d, want error %d at %d", s, table, got, gotAt, e, at)
	}
}

// wantHere checks that Parse returns this error for the text, without the
// mark @, for the token behind the mark.
func wantHere(t *testing.T, marked string, e api.Errno) {
	t.Helper()
	before, after, ok := strings.Cut(marked, "@")
	if !ok {
		t.Fatalf("%q has no mark", marked)
	}
	at := len(before+after) - len(strings.TrimLeft(after, " "))
	wantError(t, before+after, at, e)
}

// words returns the tokens of a table's text, as the chapter states them.
func words(table kind.Table) []string {
	list := []string{"program", table.Name, strconv.Itoa(table.Number), "version", strconv.Itoa(table.Version), "{"}
	for _, a := range table.Types {
		list = append(list, "type", a.Name, "=")
		list = append(append(list, wordsOf(a.Type)...), ";")
	}
	for _, f := range table.Faults {
		list = append(list, "error", f.Name, "=", strconv.Itoa(f.Number), ";")
	}
	for _, p := range table.Procs {
		list = append(list, "proc", p.Name, "=", strconv.Itoa(p.Number), "(")
		list = append(append(list, wordsOf(p.Takes)...), ")", "returns")
		list = append(append(list, wordsOf(p.Answers)...), "collate", []string{"first", "majority", "all"}[p.Collate])
		list = append(list, "timeout", strconv.Itoa(p.Timeout), ";")
	}
	return append(list, "}")
}

// wordsOf returns the tokens of a type.
func wordsOf(x kind.Type) []string {
	most := strconv.Itoa(x.Most)
	switch x.Kind {
	case kind.Text:
		return []string{"text", "[", most, "]"}
	case kind.Seq:
		return append([]string{"seq", "[", most, "]", "of"}, wordsOf(x.Of[0])...)
	case kind.Ref:
		return x.Names
	case kind.Record, kind.Enum, kind.Choice:
		list := []string{[]string{"record", "enum", "choice"}[x.Kind-kind.Record]}
		for i, name := range x.Names {
			list = append(list, []string{"{", ","}[min(i, 1)], name)
			if x.Kind != kind.Enum {
				list = append(append(list, ":"), wordsOf(x.Of[i])...)
			}
		}
		return append(list, "}")
	}
	return []string{[]string{"bool", "card", "long", "real"}[x.Kind]}
}

// print returns a table's text, with one space between tokens.
func print(table kind.Table) string { return strings.Join(words(table), " ") }

func TestP6_1Example(t *testing.T) {
	wantTable(t, "program a 1 version 2 { }", kind.Table{Name: "a", Number: 1, Version: 2})
}

// Without entries.
func TestP6_1Empty(t *testing.T) {
	wantTable(t, "program a 1 version 2{}", kind.Table{Name: "a", Number: 1, Version: 2})
	wantTable(t, "program Z9 0 version 65535{}", kind.Table{Name: "Z9", Number: 0, Version: 65535})
	wantTable(t, "program abcdefghijklmnopqrst 65535 version 0{}", kind.Table{Name: "abcdefghijklmnopqrst", Number: 65535})
}

func TestP6_1Shop(t *testing.T) {
	wantTable(t, shop, shopTable())
	wantTable(t, print(shopTable()), shopTable())
}

// A type of each kind, wherever one stands.
func TestP6_1Types(t *testing.T) {
	for s, want := range map[string]kind.Type{
		"bool":                                  plain(kind.Bool),
		"card":                                  plain(kind.Card),
		"long":                                  plain(kind.Long),
		"real":                                  plain(kind.Real),
		"text[1]":                               text(1),
		"text [ 60 ]":                           text(60),
		"seq[1]of bool":                         seq(1, plain(kind.Bool)),
		"seq[60] of seq[2] of long":             seq(60, seq(2, plain(kind.Long))),
		"record{a:card}":                        fields(kind.Record, "a", plain(kind.Card)),
		"record { a : card , B2 : text [ 3 ] }": fields(kind.Record, "a B2", plain(kind.Card), text(3)),
		"enum{a}":                               enum("a"),
		"enum { a, b, c, d, e, f, g, h, i, j, k, l }": enum("a b c d e f g h i j k l"),
		"choice{a:real}": fields(kind.Choice, "a", plain(kind.Real)),
		"choice{a:Known,b:enum{c},c:choice{d:Known}}": fields(kind.Choice, "a b c", ref("Known"), enum("c"), fields(kind.Choice, "d", ref("Known"))),
		"Known": ref("Known"),
		"bool1": ref("bool1"),
		"Bool":  ref("Bool"),
	} {
		wantType(t, s, want)
	}
}

// wantType checks that s is this type in all three places. The names Known,
// bool1 and Bool are known there.
func wantType(t *testing.T, s string, want kind.Type) {
	t.Helper()
	const before = "program p 1 version 2 { type Known = bool; type bool1 = text[7]; type Bool = enum {x}; "
	table := kind.Table{Name: "p", Number: 1, Version: 2}
	known := []kind.Alias{alias("Known", plain(kind.Bool)), alias("bool1", text(7)), alias("Bool", enum("x"))}
	table.Types = append(known, alias("T", want))
	wantTable(t, before+"type T = "+s+"; }", table)
	table.Types = known
	table.Procs = []kind.Proc{proc("q", 3, want, plain(kind.Real), kind.All, 4)}
	wantTable(t, before+"proc q = 3 ("+s+") returns real collate all timeout 4; }", table)
	table.Procs = []kind.Proc{proc("q", 3, plain(kind.Real), want, kind.Majority, 4)}
	wantTable(t, before+"proc q = 3 (real) returns "+s+" collate majority timeout 4; }", table)
}

// Any of the three sorts of entries may be missing, but their order is given.
func TestP6_1Entries(t *testing.T) {
	const typed, fault, called = "type T = bool; ", "error E = 5; ", "proc q = 3 (card) returns long collate first timeout 4; "
	entries := map[string]func(*kind.Table){
		typed: func(x *kind.Table) { x.Types = []kind.Alias{alias("T", plain(kind.Bool))} },
		fault: func(x *kind.Table) { x.Faults = []kind.Fault{{Name: "E", Number: 5}} },
		called: func(x *kind.Table) {
			x.Procs = []kind.Proc{proc("q", 3, plain(kind.Card), plain(kind.Long), kind.First, 4)}
		},
	}
	for _, list := range [][]string{{}, {typed}, {fault}, {called}, {typed, fault}, {typed, called}, {fault, called}, {typed, fault, called}} {
		want := kind.Table{Name: "p", Number: 1, Version: 2}
		for _, entry := range list {
			entries[entry](&want)
		}
		wantTable(t, "program p 1 version 2 { "+strings.Join(list, "")+"}", want)
	}
	for _, list := range []string{fault + "@" + typed, called + "@" + typed, called + "@" + fault, typed + called + "@" + typed, fault + called + "@" + fault,
		typed + fault + "@" + typed + called, typed + fault + called + "@" + typed, "@," + typed, typed + "@," + fault, called + "@, ", "@;", typed + "@;"} {
		wantHere(t, "program p 1 version 2 { "+list+"}", api.ErrForm)
	}
}

func TestP6_1Collators(t *testing.T) {
	const before = "program p 1 version 2 { proc q = 3 (card) returns long collate "
	for word, c := range map[string]kind.Collator{"first": kind.First, "majority": kind.Majority, "all": kind.All} {
		wantTable(t, before+word+" timeout 4; }",
			kind.Table{Name: "p", Number: 1, Version: 2, Procs: []kind.Proc{proc("q", 3, plain(kind.Card), plain(kind.Long), c, 4)}})
	}
	for _, marked := range []string{"@", "@none ", "@All ", "@alll ", "first @all ", "majority@, ", "@1 ", "@timeout ", "@any 3 ", "@; "} {
		wantHere(t, before+marked+"timeout 4; }", api.ErrForm)
	}
}

// What stands between tokens does not matter, nor if there is nothing where
// nothing has to be.
func TestP6_1Between(t *testing.T) {
	list := words(shopTable())
	for _, gap := range []string{" ", "\n", "\t", "  ", "#\n", "# program a 1 ; } ?\n\t", "\n\n# \x00\xff\n"} {
		wantTable(t, strings.Join(list, gap), shopTable())
		wantTable(t, gap+strings.Join(list, gap)+gap, shopTable())
	}
	wantTable(t, strings.Join(list, " ")+"# the end", shopTable())
	tight := list[0]
	for i, word := range list[1:] {
		if !strings.ContainsAny(list[i]+word, "{}()[]=:;,") {
			tight += " "
		}
		tight += word
	}
	wantTable(t, tight, shopTable())
}

// Numbers with letters behind them, or words with digits: not what they look
// like together.
func TestP6_1Together(t *testing.T) {
	wantTable(t, "program a 1version 2{}", kind.Table{Name: "a", Number: 1, Version: 2})
	wantTable(t, "program a 1version 2{type b=seq[3]of card;}", kind.Table{Name: "a", Number: 1, Version: 2, Types: []kind.Alias{alias("b", seq(3, plain(kind.Card)))}})
	wantHere(t, "@programa 1 version 2 {}", api.ErrForm)
	wantHere(t, "program a1 @version 2 {}", api.ErrNumber)
	wantHere(t, "program a 1 @version2 {}", api.ErrForm)
	wantHere(t, "program a 1 version 2 { type b = seq[3] @ofcard; }", api.ErrForm)
	wantHere(t, "program a 1 version 2 { @typeb = card; }", api.ErrForm)
}

// random returns a table of grammatical types, most of which Check takes.
func random(r *rand.Rand) kind.Table {
	table := kind.Table{Name: randomName(r), Number: randomNumber(r), Version: randomNumber(r)}
	for range r.Intn(4) {
		table.Types = append(table.Types, kind.Alias{Name: randomName(r), Type: randomType(r, 1+r.Intn(5), table.Types)})
	}
	for range r.Intn(4) {
		table.Faults = append(table.Faults, kind.Fault{Name: randomName(r), Number: randomNumber(r)})
	}
	for range r.Intn(4) {
		table.Procs = append(table.Procs, kind.Proc{Name: randomName(r), Number: randomNumber(r), Takes: randomType(r, 1+r.Intn(5), table.Types),
			Answers: randomType(r, 1+r.Intn(5), table.Types), Collate: kind.Collator(r.Intn(3)), Timeout: 1 + r.Intn(1003)})
	}
	return table
}

func randomName(r *rand.Rand) string {
	return string([]byte{"abcxyzABCXYZ"[r.Intn(12)]}) + strconv.Itoa(r.Intn(40))
}

func randomNumber(r *rand.Rand) int {
	return []int{0, 1, 65535, r.Intn(65536), r.Intn(65536), r.Intn(65536), r.Intn(65600)}[r.Intn(7)]
}

// randomType returns a type of at most so many levels, most of whose Refs are
// known.
func randomType(r *rand.Rand, levels int, known []kind.Alias) kind.Type {
	if levels == 1 {
		switch n := r.Intn(8); {
		case n == 0 && r.Intn(30) == 0:
			return ref(randomName(r))
		case n == 1 && len(known) > 0:
			return ref(known[r.Intn(len(known))].Name)
		case n == 2:
			return enum(strings.Join(randomNames(r), " "))
		case n == 3:
			return text(r.Intn(62))
		}
		return plain(kind.Kind(r.Intn(4)))
	}
	if r.Intn(3) == 0 {
		return seq(1+r.Intn(60), randomType(r, levels-1, known))
	}
	x := kind.Type{Kind: []kind.Kind{kind.Record, kind.Choice}[r.Intn(2)], Names: randomNames(r)}
	for range x.Names {
		x.Of = append(x.Of, randomType(r, 1+r.Intn(levels-1), known))
	}
	return x
}

func randomNames(r *rand.Rand) []string {
	names := []string{randomName(r)}
	for r.Intn(3) > 0 {
		names = append(names, randomName(r))
	}
	return names
}

// Any table that Check takes is parsed as it was printed, and any other one
// has Check's error, at the end.
func TestP6_1Random(t *testing.T) {
	r := rand.New(rand.NewSource(6))
	many := map[api.Errno]int{}
	for range 6000 {
		table := random(r)
		s := print(table)
		if len(s) > api.MaxText {
			continue
		}
		e := table.Check()
		many[e]++
		if e == api.OK {
			wantTable(t, s, table)
		} else {
			wantError(t, s, len(s), e)
		}
	}
	for _, e := range []api.Errno{api.OK, api.ErrRange, api.ErrMany, api.ErrTwice, api.ErrNone} {
		if many[e] < 20 {
			t.Errorf("error %d of %d texts only", e, many[e])
		}
	}
}
