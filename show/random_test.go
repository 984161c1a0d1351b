package show_test

import (
	"math/rand"
	"slices"
	"strconv"
	"strings"
	"testing"

	"prompter/api"
	"prompter/kind"
	"prompter/lex"
	"prompter/parse"
	"prompter/show"
)

// tight takes the blanks away that the chapter does not state, from a text
// with one between all tokens.
var tight = strings.NewReplacer(" [ ", "[", " ]", "]", " ,", ",", " :", ":", " ;", ";", "( ", "(", " )", ")", "{ ", "{", " }", "}")

// loose returns a type's text with a blank between all tokens.
func loose(x kind.Type) string {
	list := slices.Clone(x.Names)
	if x.Kind != kind.Seq {
		for i, part := range x.Of {
			list[i] += " : " + loose(part)
		}
	}
	inside, most := strings.Join(list, " , "), strconv.Itoa(x.Most)
	switch x.Kind {
	case kind.Text:
		return "text [ " + most + " ]"
	case kind.Seq:
		return "seq [ " + most + " ] of " + loose(x.Of[0])
	case kind.Record:
		return "record { " + inside + " }"
	case kind.Enum:
		return "enum { " + inside + " }"
	case kind.Choice:
		return "choice { " + inside + " }"
	case kind.Ref:
		return inside
	}
	return strings.Fields("bool card long real")[x.Kind]
}

// second prints a table in another way.
func second(table kind.Table) string {
	var lines []string
	add := func(format string, with ...string) {
		for _, s := range with {
			format = strings.Replace(format, "%", s, 1)
		}
		lines = append(lines, tight.Replace(format))
	}
	number := strconv.Itoa
	for _, a := range table.Types {
		add("type % = % ;", a.Name, loose(a.Type))
	}
	for _, f := range table.Faults {
		add("error % = % ;", f.Name, number(f.Number))
	}
	for _, p := range table.Procs {
		add("proc % = % ( % ) returns % collate % timeout % ;", p.Name, number(p.Number), loose(p.Takes), loose(p.Answers),
			strings.Fields("first majority all")[p.Collate], number(p.Timeout))
	}
	all := strings.Join(append([]string{"program " + table.Name + " " + number(table.Number) + " version " + number(table.Version) + " {"}, lines...), "\n  ")
	return all + "\n}\n"
}

// random returns a table that Check takes, unless a procedure's types stand
// for too much, or a number occurs twice.
func random(r *rand.Rand) kind.Table {
	name := naming(r)
	table := kind.Table{Name: name(), Number: randomNumber(r), Version: randomNumber(r)}
	for range r.Intn(5) {
		table.Types = append(table.Types, kind.Alias{Name: name(), Type: randomType(r, 1+r.Intn(5), table.Types)})
	}
	for range r.Intn(5) {
		table.Faults = append(table.Faults, kind.Fault{Name: name(), Number: randomNumber(r)})
	}
	for range r.Intn(5) {
		levels := 1 + r.Intn(5)
		table.Procs = append(table.Procs, proc(name(), randomNumber(r), randomType(r, levels, table.Types), randomType(r, 6-levels, table.Types),
			kind.Collator(r.Intn(3)), 1+r.Intn(1000)))
	}
	return table
}

// naming returns a function that returns another name at each call.
func naming(r *rand.Rand) func() string {
	n := r.Intn(100)
	return func() string {
		n++
		return strings.Repeat(string(rune('A'+r.Intn(26))), r.Intn(15)) + string(rune('a'+r.Intn(26))) + strconv.Itoa(n)
	}
}

func randomNumber(r *rand.Rand) int {
	return []int{0, 9, 10, 65535, r.Intn(100), r.Intn(65536), r.Intn(65536), r.Intn(65536)}[r.Intn(8)]
}

// randomType returns a type of at most so many levels.
func randomType(r *rand.Rand, levels int, known []kind.Alias) kind.Type {
	k := kind.Kind(r.Intn(10))
	if levels == 1 && (k == kind.Seq || k == kind.Record || k == kind.Choice) || k == kind.Ref && len(known) == 0 {
		k = kind.Kind(r.Intn(4))
	}
	x := kind.Type{Kind: k}
	switch k {
	case kind.Text:
		x.Most = 1 + r.Intn(60)
	case kind.Seq:
		return seq(1+r.Intn(60), randomType(r, levels-1, known))
	case kind.Ref:
		return ref(known[r.Intn(len(known))].Name)
	case kind.Record, kind.Enum, kind.Choice:
		name := naming(r)
		for range 1 + min(r.Intn(12), r.Intn(12)) {
			x.Names = append(x.Names, name())
			if k != kind.Enum {
				x.Of = append(x.Of, randomType(r, levels-1, known))
			}
		}
	}
	return x
}

// Random tables, printed in two ways.
func TestP7_1Random(t *testing.T) {
	r := rand.New(rand.NewSource(7))
	good := 0
	for range 6000 {
		table := random(r)
		if table.Check() != api.OK {
			continue
		}
		good++
		want := second(table)
		wantText(t, table, strings.Split(strings.TrimSuffix(want, "\n"), "\n")...)
		for _, a := range table.Types {
			wantType(t, a.Type, tight.Replace(loose(a.Type)))
		}
	}
	if good < 3000 {
		t.Errorf("%d tables are right", good)
	}
}

// separated returns tokens with random separators between them, a few of which
// are none where none is needed.
func separated(r *rand.Rand, tokens []lex.Token) string {
	s := ""
	for i, token := range tokens {
		gap := []string{" ", "\n", "\t", " \n  ", "# type ; } \xff\n", "#\n", " ", ""}[r.Intn(8)]
		if gap == "" && i > 0 && token.Kind != lex.Sign && tokens[i-1].Kind != lex.Sign {
			gap = " "
		}
		s += gap + token.Text
	}
	return s
}

// P7, as far as it speaks of printing: every text either is an interface,
// whose print has the same tokens, and is parsed as the same interface and
// printed again as the same text; or yields an error and its position.
func TestP7(t *testing.T) {
	r := rand.New(rand.NewSource(77))
	good, bad := 0, 0
	for range 5000 {
		tokens, _, _ := lex.Split(second(random(r)))
		if len(tokens) == 0 { // of too long a text
			continue
		}
		switch i := r.Intn(len(tokens)); r.Intn(6) {
		case 0:
			tokens = slices.Delete(slices.Clone(tokens), i, i+1)
		case 1:
			tokens[i] = tokens[r.Intn(len(tokens))]
		}
		s := separated(r, tokens)
		table, at, e := parse.Parse(s)
		if e != api.OK {
			bad++
			if at < 0 || at > len(s) {
				t.Errorf("Parse(%q): error %d at %d", s, e, at)
			}
			continue
		}
		good++
		wantAgain(t, s, table)
	}
	if good < 2000 || bad < 500 {
		t.Errorf("%d texts are interfaces, %d are none", good, bad)
	}
}

// wantAgain checks what is printed of the table as which s was parsed.
func wantAgain(t *testing.T, s string, table kind.Table) {
	t.Helper()
	printed, e := show.Table(table)
	if e != api.OK {
		t.Errorf("%q is an interface, but Table returns error %d", s, e)
	}
	if len(printed) > api.MaxText {
		return
	}
	old, _, _ := lex.Split(s)
	tokens, _, _ := lex.Split(printed)
	if !slices.EqualFunc(old, tokens, func(a, b lex.Token) bool { return a.Kind == b.Kind && a.Text == b.Text }) {
		t.Errorf("%q is printed as %q", s, printed)
	}
	again, at, e := parse.Parse(printed)
	if e != api.OK || !kind.Alike(again, table) {
		t.Errorf("%q: error %d at %d, or not the interface of %q", printed, e, at, s)
	}
	if twice, e := show.Table(again); e != api.OK || twice != printed {
		t.Errorf("%q is printed again as %q, error %d", printed, twice, e)
	}
}

// Texts of few or many blanks, and the text that is printed itself.
func TestP7Texts(t *testing.T) {
	for _, s := range []string{"program a 1 version 2{}", "program a 1version 2{}#", " \n\tprogram\na\n1 version 65535 { } ", shop,
		strings.ReplaceAll(shop, " ", "\t\n "), strings.ReplaceAll(shop, ";", " ; # end\n"),
		"program a 1 version 2{type b=seq[3]of card;error c=0;proc d=1(record{e:b,f:enum{g,h}})returns choice{i:text[1]}collate all timeout 1000;}"} {
		table, at, e := parse.Parse(s)
		if e != api.OK {
			t.Errorf("Parse(%q): error %d at %d", s, e, at)
		}
		wantAgain(t, s, table)
	}
	if table, _, _ := parse.Parse(shop); second(table) != shop || !kind.Alike(table, shopTable()) {
		t.Errorf("the tests' own texts differ: %q", second(table))
	}
}
