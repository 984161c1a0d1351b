package show_test

import (
	"strconv"
	"strings"
	"testing"

	"prompter/api"
	"prompter/kind"
	"prompter/parse"
	"prompter/show"
)

// shop is the text of an interface with every kind of type, aliases, faults,
// procedures and all collators; shopTable returns its table.
const shop = `program Shop 1 version 2 {
  type Price = card;
  type State = enum {open, closed};
  type Item = record {name: text[60], price: Price, tags: seq[5] of text[8]};
  error Sold = 0;
  error Gone = 65535;
  proc find = 0 (Item) returns choice {found: Item, none: bool} collate first timeout 1;
  proc set = 65535 (record {a: long, b: real, c: State}) returns State collate majority timeout 1000;
  proc ask = 9 (choice {x: enum {y}}) returns seq[60] of seq[1] of Price collate all timeout 40;
}
`

func shopTable() kind.Table {
	price, state := ref("Price"), ref("State")
	return kind.Table{
		Name: "Shop", Number: 1, Version: 2,
		Types: []kind.Alias{
			{Name: "Price", Type: plain(kind.Card)},
			{Name: "State", Type: enum("open", "closed")},
			{Name: "Item", Type: record("name price tags", text(60), price, seq(5, text(8)))},
		},
		Faults: []kind.Fault{{Name: "Sold"}, {Name: "Gone", Number: 65535}},
		Procs: []kind.Proc{
			proc("find", 0, ref("Item"), choice("found none", ref("Item"), plain(kind.Bool)), kind.First, 1),
			proc("set", 65535, record("a b c", plain(kind.Long), plain(kind.Real), state), state, kind.Majority, 1000),
			proc("ask", 9, choice("x", enum("y")), seq(60, seq(1, price)), kind.All, 40),
		},
	}
}

func plain(k kind.Kind) kind.Type      { return kind.Type{Kind: k} }
func text(most int) kind.Type          { return kind.Type{Kind: kind.Text, Most: most} }
func ref(name string) kind.Type        { return kind.Type{Kind: kind.Ref, Names: []string{name}} }
func enum(names ...string) kind.Type   { return kind.Type{Kind: kind.Enum, Names: names} }
func seq(n int, x kind.Type) kind.Type { return kind.Type{Kind: kind.Seq, Most: n, Of: []kind.Type{x}} }
func record(names string, of ...kind.Type) kind.Type {
	return kind.Type{Kind: kind.Record, Names: strings.Fields(names), Of: of}
}
func choice(names string, of ...kind.Type) kind.Type {
	return kind.Type{Kind: kind.Choice, Names: strings.Fields(names), Of: of}
}

func proc(name string, number int, takes, answers kind.Type, c kind.Collator, timeout int) kind.Proc {
	return kind.Proc{Name: name, Number: number, Takes: takes, Answers: answers, Collate: c, Timeout: timeout}
}

// small returns a table with one procedure, which takes and answers these.
func small(takes, answers kind.Type) kind.Table {
	return kind.Table{Name: "a", Number: 1, Version: 2, Procs: []kind.Proc{proc("p", 3, takes, answers, kind.First, 4)}}
}

func wantType(t *testing.T, x kind.Type, want string) {
	t.Helper()
	if got := show.Type(x); got != want {
		t.Errorf("Type(%v): %q, want %q", x, got, want)
	}
}

// wantText checks that Table returns exactly these lines, and that they are
// parsed as the same table, if they are not too many bytes for that.
func wantText(t *testing.T, table kind.Table, lines ...string) {
	t.Helper()
	want := strings.Join(lines, "\n") + "\n"
	got, e := show.Table(table)
	if got != want || e != api.OK {
		t.Errorf("Table(%v): %q, error %d, want %q", table, got, e, want)
	}
	if again, at, e := parse.Parse(got); len(got) <= api.MaxText && (e != api.OK || !kind.Alike(again, table)) {
		t.Errorf("%q is parsed as %v, error %d at %d, not as %v", got, again, e, at, table)
	}
}

func TestP7_1Example(t *testing.T) {
	wantText(t, kind.Table{Name: "a", Number: 1, Version: 2}, "program a 1 version 2 {", "}")
}

func TestP7_1Types(t *testing.T) {
	for want, x := range map[string]kind.Type{
		"bool":                             plain(kind.Bool),
		"card":                             plain(kind.Card),
		"long":                             plain(kind.Long),
		"real":                             plain(kind.Real),
		"text[5]":                          text(5),
		"seq[3] of bool":                   seq(3, plain(kind.Bool)),
		"record {a: card, b: long}":        record("a b", plain(kind.Card), plain(kind.Long)),
		"enum {a, b}":                      enum("a", "b"),
		"choice {a: bool}":                 choice("a", plain(kind.Bool)),
		"Price":                            ref("Price"),
		"seq[10] of text[11]":              seq(10, text(11)),
		"seq[1] of seq[2] of seq[3] of X1": seq(1, seq(2, seq(3, ref("X1")))),
		"seq[7] of record {z: enum {y}}":   seq(7, record("z", enum("y"))),
		"record {b: real, a: text[1], c: enum {z, a, m}}": record("b a c", plain(kind.Real), text(1), enum("z", "a", "m")),
		"record {x: record {x: x}, y: x}":                 record("x y", record("x", ref("x")), ref("x")),
		"choice {one: One, two: seq[2] of Two, c: choice {d: record {e: bool, f: long}, g: real}}": choice("one two c",
			ref("One"), seq(2, ref("Two")), choice("d g", record("e f", plain(kind.Bool), plain(kind.Long)), plain(kind.Real))),
	} {
		wantType(t, x, want)
	}
}

// Each length that a text or a sequence may have.
func TestP7_1Most(t *testing.T) {
	for n := 1; n <= api.MaxLength; n++ {
		wantType(t, text(n), "text["+strconv.Itoa(n)+"]")
		wantType(t, seq(n, text(61-n)), "seq["+strconv.Itoa(n)+"] of text["+strconv.Itoa(61-n)+"]")
	}
}

// names returns n names, the first of which has as many letters and digits as
// there may be.
func names(n int) []string {
	list := []string{"abcdefghijklmnopq2XY"}
	for i := 1; i < n; i++ {
		list = append(list, string(rune('Z'-i))+strconv.Itoa(i))
	}
	return list
}

// From one name to as many as there may be.
func TestP7_1Names(t *testing.T) {
	for n := 1; n <= api.MaxNames; n++ {
		list := names(n)
		spaced := strings.Join(list, " ")
		reals := strings.Join(list, ": real, ") + ": real"
		x, y, z := enum(list...), record(spaced), choice(spaced)
		for range n {
			y.Of, z.Of = append(y.Of, plain(kind.Real)), append(z.Of, plain(kind.Real))
		}
		wantType(t, x, "enum {"+strings.Join(list, ", ")+"}")
		wantType(t, y, "record {"+reals+"}")
		wantType(t, z, "choice {"+reals+"}")
		for _, part := range []kind.Type{x, y, z} {
			wantText(t, small(part, part), "program a 1 version 2 {",
				"  proc p = 3 ("+show.Type(part)+") returns "+show.Type(part)+" collate first timeout 4;", "}")
		}
	}
}

// nested calls do with each type of so many levels whose innermost type is x,
// and with its text.
func nested(levels int, x kind.Type, s string, do func(x kind.Type, s string)) {
	if levels == 1 {
		do(x, s)
		return
	}
	nested(levels-1, seq(levels, x), "seq["+strconv.Itoa(levels)+"] of "+s, do)
	nested(levels-1, record("a b", text(1), x), "record {a: text[1], b: "+s+"}", do)
	nested(levels-1, choice("a b", x, ref("T")), "choice {a: "+s+", b: T}", do)
}

// Types in one another, as deep as they may be: each kind in each.
func TestP7_1Nested(t *testing.T) {
	for s, x := range map[string]kind.Type{
		"bool": plain(kind.Bool), "card": plain(kind.Card), "long": plain(kind.Long), "real": plain(kind.Real),
		"text[60]": text(60), "enum {y, x}": enum("y", "x"), "T": ref("T"),
	} {
		for levels := 1; levels <= api.MaxDeep; levels++ {
			nested(levels, x, s, func(x kind.Type, s string) {
				wantType(t, x, s)
				table := small(x, x)
				table.Types = []kind.Alias{{Name: "T", Type: plain(kind.Bool)}, {Name: "U", Type: x}}
				wantText(t, table, "program a 1 version 2 {", "  type T = bool;", "  type U = "+s+";",
					"  proc p = 3 ("+s+") returns "+s+" collate first timeout 4;", "}")
			})
		}
	}
}

// Types that are whole may have more levels than those of a table.
func TestP7_1Whole(t *testing.T) {
	for levels := 6; levels <= 20; levels++ {
		x, s := enum("a", "b"), "enum {a, b}"
		for i := range levels - 1 {
			switch i % 3 {
			case 0:
				x, s = record("a b", text(2), x), "record {a: text[2], b: "+s+"}"
			case 1:
				x, s = choice("c", x), "choice {c: "+s+"}"
			case 2:
				x, s = seq(i, x), "seq["+strconv.Itoa(i)+"] of "+s
			}
		}
		wantType(t, x, s)
	}
}

// The type with the most types, names and bytes that may be.
func TestP7_1Largest(t *testing.T) {
	list := names(12)
	for i, name := range list {
		list[i] = name + strings.Repeat("x", 20-len(name))
	}
	x, s := enum(list...), "enum {"+strings.Join(list, ", ")+"}"
	for level := range api.MaxDeep - 1 {
		y := kind.Type{Kind: []kind.Kind{kind.Record, kind.Choice}[level%2], Names: list}
		var parts []string
		for _, name := range list {
			y.Of = append(y.Of, x)
			parts = append(parts, name+": "+s)
		}
		x, s = y, []string{"record", "choice"}[level%2]+" {"+strings.Join(parts, ", ")+"}"
	}
	if got := show.Type(x); got != s {
		t.Errorf("Type of 22621 types: %d bytes, want %d", len(got), len(s))
	}
	table := kind.Table{Name: "a", Types: []kind.Alias{{Name: "b", Type: x}, {Name: "c", Type: x}}}
	if got, e := show.Table(table); e != api.OK || got != "program a 0 version 0 {\n  type b = "+s+";\n  type c = "+s+";\n}\n" {
		t.Errorf("Table of two types of 22621 types: %d bytes, error %d", len(got), e)
	}
}

func TestP7_1Shop(t *testing.T) {
	wantText(t, shopTable(), strings.Split(strings.TrimSuffix(shop, "\n"), "\n")...)
}

func TestP7_1Collators(t *testing.T) {
	for c, word := range map[kind.Collator]string{kind.First: "first", kind.Majority: "majority", kind.All: "all"} {
		table := small(plain(kind.Bool), plain(kind.Real))
		table.Procs[0].Collate = c
		wantText(t, table, "program a 1 version 2 {", "  proc p = 3 (bool) returns real collate "+word+" timeout 4;", "}")
	}
}

// The least numbers and the greatest ones, and those between them, each in
// its own place.
func TestP7_1Numbers(t *testing.T) {
	for _, n := range []int{0, 1, 9, 10, 60, 99, 100, 255, 256, 1000, 32768, 65534, 65535} {
		m, out := strconv.Itoa(n), 1+n%1000
		table := small(plain(kind.Card), plain(kind.Long))
		table.Faults = []kind.Fault{{Name: "f", Number: 7}}
		head, fault, proc := "program a 1 version 2 {", "  error f = 7;", "  proc p = 3 (card) returns long collate first timeout 4;"
		wantText(t, table, head, fault, proc, "}")
		table.Number = n
		wantText(t, table, "program a "+m+" version 2 {", fault, proc, "}")
		table.Number, table.Version = 1, n
		wantText(t, table, "program a 1 version "+m+" {", fault, proc, "}")
		table.Version, table.Faults[0].Number = 2, n
		wantText(t, table, head, "  error f = "+m+";", proc, "}")
		table.Faults[0].Number, table.Procs[0].Number = 7, n
		wantText(t, table, head, fault, "  proc p = "+m+" (card) returns long collate first timeout 4;", "}")
		table.Procs[0].Number, table.Procs[0].Timeout = 3, out
		wantText(t, table, head, fault, "  proc p = 3 (card) returns long collate first timeout "+strconv.Itoa(out)+";", "}")
	}
}

// From no entry of a sort to as many as there may be, in their own order.
func TestP7_1Entries(t *testing.T) {
	for _, many := range [][3]int{{0, 0, 1}, {0, 1, 0}, {1, 0, 0}, {1, 1, 1}, {0, 2, 3}, {2, 0, 2}, {3, 1, 0}, {16, 0, 0}, {0, 16, 0}, {0, 0, 16}, {16, 16, 16}} {
		table := kind.Table{Name: "abcdefghijklmnopqrst", Number: 65535}
		lines := []string{"program abcdefghijklmnopqrst 65535 version 0 {"}
		for i := range many[0] {
			name := "T" + strconv.Itoa(i)
			table.Types = append(table.Types, kind.Alias{Name: name, Type: text(60 - i)})
			lines = append(lines, "  type "+name+" = text["+strconv.Itoa(60-i)+"];")
		}
		for i := range many[1] {
			name := "E" + strconv.Itoa(20-i)
			table.Faults = append(table.Faults, kind.Fault{Name: name, Number: 500 - i})
			lines = append(lines, "  error "+name+" = "+strconv.Itoa(500-i)+";")
		}
		for i := range many[2] {
			name, word := "p"+strconv.Itoa(i%2)+strconv.Itoa(i), []string{"first", "majority", "all"}[i%3]
			table.Procs = append(table.Procs, proc(name, 90-i, plain(kind.Real), text(1+i), kind.Collator(i%3), 900+i))
			lines = append(lines, "  proc "+name+" = "+strconv.Itoa(90-i)+" (real) returns text["+strconv.Itoa(1+i)+"] collate "+word+" timeout "+strconv.Itoa(900+i)+";")
		}
		wantText(t, table, append(lines, "}")...)
	}
}

// A table may have a text that is longer than one that is parsed. It is
// printed, all of it.
func TestP7_1Long(t *testing.T) {
	list := names(12)
	x := kind.Type{Kind: kind.Record, Names: list}
	for range list {
		x.Of = append(x.Of, enum(list...))
	}
	s := "record {" + strings.Join(list, ": enum {"+strings.Join(list, ", ")+"}, ") + ": enum {" + strings.Join(list, ", ") + "}}"
	table, lines := kind.Table{Name: "a"}, []string{"program a 0 version 0 {"}
	for i := range api.MaxTypes {
		table.Types = append(table.Types, kind.Alias{Name: "T" + strconv.Itoa(i), Type: x})
		lines = append(lines, "  type T"+strconv.Itoa(i)+" = "+s+";")
	}
	wantText(t, table, append(lines, "}")...)
}
