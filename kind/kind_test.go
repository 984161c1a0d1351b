package kind_test

import (
	"reflect"
	"slices"
	"strconv"
	"strings"
	"testing"

	"prompter/kind"
)

const (
	letters = "abcdefghijklmnopqrstuvwxyzABCDEFGHIJKLMNOPQRSTUVWXYZ"
	digits  = "0123456789"
	words   = "bool card long real text seq of record enum choice program version type error proc returns collate timeout first majority all"
)

// The types of the tests.
func plain(k kind.Kind) kind.Type { return kind.Type{Kind: k} }
func text(most int) kind.Type     { return kind.Type{Kind: kind.Text, Most: most} }
func seq(most int, of kind.Type) kind.Type {
	return kind.Type{Kind: kind.Seq, Most: most, Of: []kind.Type{of}}
}
func enum(names string) kind.Type           { return kind.Type{Kind: kind.Enum, Names: strings.Fields(names)} }
func ref(name string) kind.Type             { return kind.Type{Kind: kind.Ref, Names: []string{name}} }
func record(of ...kind.Type) kind.Type      { return parts(kind.Record, of) }
func choice(of ...kind.Type) kind.Type      { return parts(kind.Choice, of) }
func repeat(n int, x kind.Type) []kind.Type { return slices.Repeat([]kind.Type{x}, n) }

// parts returns a Record or a Choice of these types, with names as numbered
// gives them.
func parts(k kind.Kind, of []kind.Type) kind.Type {
	return kind.Type{Kind: k, Names: numbered(len(of)), Of: of}
}

// numbered returns n different names.
func numbered(n int) []string {
	var names []string
	for i := range n {
		name := letters[i%26 : i%26+1]
		if i >= 26 {
			name += strconv.Itoa(i / 26)
		}
		names = append(names, name)
	}
	return names
}

// nested returns x within n types more, of all the kinds that have parts.
func nested(n int, x kind.Type) kind.Type {
	for i := range n {
		switch i % 3 {
		case 0:
			x = seq(1+i%60, x)
		case 1:
			x = record(x)
		case 2:
			x = choice(x)
		}
	}
	return x
}

// good returns a table of which each part may be, and which has all kinds.
func good() kind.Table {
	return kind.Table{
		Name: "Shop", Number: 7, Version: 65535,
		Types: []kind.Alias{
			{"Price", plain(kind.Card)},
			{"Item", record(text(60), ref("Price"), seq(60, ref("Price")))},
			{"State", enum("open closed")},
		},
		Faults: []kind.Fault{{"Unknown", 0}, {"Sold", 65535}, {"Gone", 1}},
		Procs: []kind.Proc{
			{"find", 0, ref("Item"), choice(ref("Item"), plain(kind.Bool)), kind.First, 1},
			{"sell", 65535, record(plain(kind.Long), plain(kind.Real)), ref("State"), kind.Majority, 1000},
			{"count", 9, text(1), plain(kind.Card), kind.All, 40},
		},
	}
}

func TestP5_1Kinds(t *testing.T) {
	for want, k := range []kind.Kind{kind.Bool, kind.Card, kind.Long, kind.Real, kind.Text, kind.Seq, kind.Record,
		kind.Enum, kind.Choice, kind.Ref, kind.Kinds} {
		if int(k) != want {
			t.Errorf("kind %d has number %d", want, k)
		}
	}
	for want, c := range []kind.Collator{kind.First, kind.Majority, kind.All, kind.Collators} {
		if int(c) != want {
			t.Errorf("collator %d has number %d", want, c)
		}
	}
	if kind.Parts != 200 {
		t.Errorf("Parts: %d", kind.Parts)
	}
}

func wantNamed(t *testing.T, s string, want bool) {
	t.Helper()
	if got := kind.Named(s); got != want {
		t.Errorf("Named(%.40q): %v", s, got)
	}
}

func TestP5_1Example(t *testing.T) {
	wantNamed(t, "seq", false)
}

func TestP5_1Length(t *testing.T) {
	for n, want := range map[int]bool{0: false, 1: true, 2: true, 19: true, 20: true, 21: false, 22: false, 40: false, 276: false, 1 << 20: false} {
		for _, c := range []string{"a", "Z", "q"} {
			wantNamed(t, strings.Repeat(c, n), want)
		}
		if n > 0 {
			wantNamed(t, "x"+strings.Repeat("7", n-1), want)
			wantNamed(t, strings.Repeat("7", n), false)
		}
	}
}

// Each byte, at each place of a name of each length.
func TestP5_1Bytes(t *testing.T) {
	for c := range 256 {
		s := string([]byte{byte(c)})
		letter, digit := strings.Contains(letters, s), strings.Contains(digits, s)
		for n := range 21 {
			for at := range n {
				name := strings.Repeat("n", at) + s + strings.Repeat("n", n-1-at)
				wantNamed(t, name, letter || digit && at > 0)
			}
		}
	}
}

// Names are of letters and digits of ASCII.
func TestP5_1NotNames(t *testing.T) {
	for _, s := range []string{"\u00e9", "na\u00efve", "a\u0663", "a b", " a", "a ", "a\n", "a_b", "a-b", "a.b", "a\x00", "\xff", "1a", "0", "a;", "bool card"} {
		wantNamed(t, s, false)
	}
}

func TestP5_1Words(t *testing.T) {
	list := strings.Fields(words)
	if len(list) != 21 {
		t.Fatalf("%d words", len(list))
	}
	for _, s := range list {
		wantNamed(t, s, false)
		for _, other := range []string{strings.ToUpper(s), strings.ToUpper(s[:1]) + s[1:], s[:1] + strings.ToUpper(s[1:]),
			s + "s", s + "0", "a" + s, s + s, s[:len(s)-1], s[1:]} {
			wantNamed(t, other, true)
		}
	}
	for _, s := range []string{"name", "number", "ref", "nothing", "int", "string", "func", "none", "any", "true"} {
		wantNamed(t, s, true) // no words of interfaces
	}
}

// different returns types no two of which are equal, among them, for each
// field of a type, some that differ in it alone.
func different() []kind.Type {
	var list []kind.Type
	for k := range 12 {
		for _, most := range []int{0, 1, -1, 60} {
			for _, names := range [][]string{nil, {""}, {"a"}, {"A"}, {"a", "b"}, {"b", "a"}, {"a", "a"}, {"ab"}} {
				for _, of := range [][]kind.Type{nil, {plain(0)}, {plain(1)}, {plain(0), plain(1)}, {plain(1), plain(0)}} {
					list = append(list, kind.Type{Kind: kind.Kind(k), Most: most, Names: names, Of: of})
				}
			}
		}
	}
	for n := 2; n < 9; n++ {
		for _, x := range []kind.Type{plain(kind.Bool), plain(kind.Card), text(1), text(2), ref("a"), enum("a b"), enum("b a")} {
			list = append(list, nested(n, x), record(plain(kind.Bool), nested(n, x)), record(nested(n, x), plain(kind.Bool)))
		}
	}
	return append(list, kind.Type{Kind: 255}, kind.Type{Kind: kind.Seq, Most: 1 << 32}, kind.Type{Kind: kind.Seq, Most: 1 << 62})
}

func TestP5_3Same(t *testing.T) {
	list, again := different(), different()
	for i, a := range list {
		for j, b := range again {
			if got := kind.Same(a, b); got != (i == j) {
				t.Errorf("Same(%v, %v): %v", a, b, got)
			}
		}
	}
}

// variants returns, for each place of x, x with some change at that place.
func variants(x kind.Type) []kind.Type {
	var list []kind.Type
	add := func(change func(x *kind.Type)) {
		y := clone(x)
		change(&y)
		list = append(list, y)
	}
	add(func(x *kind.Type) { x.Kind++ })
	add(func(x *kind.Type) { x.Most++ })
	add(func(x *kind.Type) { x.Names = append(x.Names, "more") })
	add(func(x *kind.Type) { x.Of = append(x.Of, kind.Type{}) })
	for i := range x.Names {
		add(func(x *kind.Type) { x.Names[i] += "x" })
	}
	for i := range x.Of {
		for _, part := range variants(x.Of[i]) {
			add(func(x *kind.Type) { x.Of[i] = part })
		}
	}
	return list
}

// clone returns x in new memory.
func clone(x kind.Type) kind.Type {
	x.Names = slices.Clone(x.Names)
	x.Of = slices.Clone(x.Of)
	for i, part := range x.Of {
		x.Of[i] = clone(part)
	}
	return x
}

func TestP5_3SameVariants(t *testing.T) {
	for _, x := range []kind.Type{
		plain(kind.Bool), record(plain(kind.Card), text(5), seq(3, plain(kind.Bool))), nested(7, enum("a b c")),
		choice(record(ref("a"), ref("b")), record(ref("b"), ref("a")), nested(3, record(plain(kind.Long), plain(kind.Real)))),
	} {
		if !kind.Same(x, clone(x)) {
			t.Errorf("%v is not the same", x)
		}
		for _, y := range variants(x) {
			if kind.Same(x, y) || kind.Same(y, x) {
				t.Errorf("%v is the same as %v", x, y)
			}
		}
	}
}

// tables returns, for each place of good's table, a table changed there.
func tables() map[string]kind.Table {
	list := map[string]kind.Table{}
	add := func(what string, change func(t *kind.Table)) {
		t := good()
		change(&t)
		list[what] = t
	}
	add("Name", func(t *kind.Table) { t.Name += "x" })
	add("Number", func(t *kind.Table) { t.Number++ })
	add("Version", func(t *kind.Table) { t.Version-- })
	add("fewer Types", func(t *kind.Table) { t.Types = t.Types[:2] })
	add("more Types", func(t *kind.Table) { t.Types = append(t.Types, kind.Alias{}) })
	add("no Types", func(t *kind.Table) { t.Types = nil })
	add("order of Types", func(t *kind.Table) { slices.Reverse(t.Types) })
	add("fewer Faults", func(t *kind.Table) { t.Faults = t.Faults[1:] })
	add("more Faults", func(t *kind.Table) { t.Faults = append(t.Faults, kind.Fault{}) })
	add("no Faults", func(t *kind.Table) { t.Faults = nil })
	add("order of Faults", func(t *kind.Table) { slices.Reverse(t.Faults) })
	add("fewer Procs", func(t *kind.Table) { t.Procs = t.Procs[1:] })
	add("more Procs", func(t *kind.Table) { t.Procs = append(t.Procs, kind.Proc{}) })
	add("no Procs", func(t *kind.Table) { t.Procs = nil })
	add("order of Procs", func(t *kind.Table) { slices.Reverse(t.Procs) })
	for i := range 3 {
		at := letters[i : i+1]
		add("alias's Name "+at, func(t *kind.Table) { t.Types[i].Name += "x" })
		add("alias's Type "+at, func(t *kind.Table) { t.Types[i].Type = seq(1, t.Types[i].Type) })
		add("fault's Name "+at, func(t *kind.Table) { t.Faults[i].Name += "x" })
		add("fault's Number "+at, func(t *kind.Table) { t.Faults[i].Number += 65536 })
		add("proc's Name "+at, func(t *kind.Table) { t.Procs[i].Name += "x" })
		add("proc's Number "+at, func(t *kind.Table) { t.Procs[i].Number += 65536 })
		add("Takes "+at, func(t *kind.Table) { t.Procs[i].Takes = seq(1, t.Procs[i].Takes) })
		add("Answers "+at, func(t *kind.Table) { t.Procs[i].Answers = seq(1, t.Procs[i].Answers) })
		add("Takes' part "+at, func(t *kind.Table) { t.Procs[i].Takes.Most++ })
		add("Answers' part "+at, func(t *kind.Table) { t.Procs[i].Answers.Most++ })
		add("Collate "+at, func(t *kind.Table) { t.Procs[i].Collate += 3 })
		add("Timeout "+at, func(t *kind.Table) { t.Procs[i].Timeout++ })
	}
	add("Takes' deepest part", func(t *kind.Table) { t.Procs[1].Takes.Of[1].Kind = kind.Bool })
	add("alias's deepest part", func(t *kind.Table) { t.Types[1].Type.Of[2].Of[0].Names[0] = "State" })
	add("zero", func(t *kind.Table) { *t = kind.Table{} })
	return list
}

func TestP5_3Alike(t *testing.T) {
	if !kind.Alike(good(), good()) || !kind.Alike(kind.Table{}, kind.Table{}) {
		t.Error("a table is not Alike itself")
	}
	all := tables()
	for what, a := range all {
		if kind.Alike(a, good()) || kind.Alike(good(), a) {
			t.Errorf("Alike although different: %s", what)
		}
		for other, b := range tables() {
			if got := kind.Alike(a, b); got != (what == other) {
				t.Errorf("Alike of %s and %s: %v", what, other, got)
			}
		}
	}
}

func TestP5_3Find(t *testing.T) {
	g := good()
	for i, n := range []int{0, 65535, 9} {
		p, ok := g.Find(n)
		if !ok || !reflect.DeepEqual(p, good().Procs[i]) {
			t.Errorf("Find(%d): %v, %v", n, p, ok)
		}
	}
	for _, n := range []int{-1, 1, 8, 10, 65534, 65536, 1 << 16, 1<<32 + 9, 1 << 63 >> 1, -1 << 63} {
		if p, ok := g.Find(n); ok || !reflect.DeepEqual(p, kind.Proc{}) {
			t.Errorf("Find(%d): %v, %v", n, p, ok)
		}
	}
	if p, ok := (kind.Table{}).Find(0); ok || !reflect.DeepEqual(p, kind.Proc{}) {
		t.Errorf("Find in an empty table: %v, %v", p, ok)
	}
}

// In a table that Check rejects, too: the first one, whatever its number is.
func TestP5_3FindFirst(t *testing.T) {
	var table kind.Table
	for i, n := range []int{5, -3, 5, 1 << 40, -3, 5} {
		table.Procs = append(table.Procs, kind.Proc{Name: numbered(6)[i], Number: n})
	}
	for n, want := range map[int]string{5: "a", -3: "b", 1 << 40: "d"} {
		if p, ok := table.Find(n); !ok || p.Name != want || p.Number != n {
			t.Errorf("Find(%d): %v, %v", n, p, ok)
		}
	}
}
