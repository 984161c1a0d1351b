package parse_test

import (
	"math"
	"math/rand"
	"reflect"
	"slices"
	"strings"
	"testing"
	"unsafe"

	"prompter/api"
	"prompter/kind"
	"prompter/lex"
	"prompter/parse"
)

// P1: no bytes make Parse panic, or not end.
func TestP1NoPanic(t *testing.T) {
	r := rand.New(rand.NewSource(1))
	pool := strings.Fields(others)
	for range 3000 {
		b := make([]byte, r.Intn(60))
		r.Read(b)
		wantFirst(t, string(b))
		wantFirst(t, "program a 1 version 2 {"+string(b))
		wantFirst(t, "program a 1 version 2 {# "+string(b)+"\n}")
		var list []string
		for range r.Intn(40) {
			list = append(list, pool[r.Intn(len(pool)-5)]) // tokens
		}
		wantFirst(t, strings.Join(list, " "))
		wantFirst(t, "program a 1 version 2 { "+strings.Join(list, " "))
		wantFirst(t, "program a 1 version 2 { type T = "+strings.Join(list, " "))
	}
	for _, s := range []string{"", " ", "\x00", "\xff", "seq", "record", "program"} {
		wantFirst(t, s)
		wantError(t, strings.Repeat(s+" ", 1<<22), 4000, api.ErrSize)
	}
	for _, s := range []string{"seq[1] of ", "record {a: ", "choice {a: ", "enum {a", "a, "} {
		wantFirst(t, "program a 1 version 2 { type T = "+strings.Repeat(s, 3900/len(s)))
	}
}

// All texts of few tokens behind a beginning.
func TestP1AllShort(t *testing.T) {
	pool := strings.Fields("program version type error proc bool text seq record enum collate all of a 7 { } ( ) [ ] = : ; ,")
	for _, before := range []string{"", "program a 1 ", "program a 1 version 2 { ", "program a 1 version 2 { type T = ", "program a 1 version 2 { type T = record { a : bool "} {
		for _, x := range pool {
			for _, y := range pool {
				wantFirst(t, before+x+" "+y)
				for _, z := range []string{"a", "7", "{", "}", ";", "]"} {
					wantFirst(t, before+x+" "+y+" "+z)
				}
			}
		}
	}
}

// P7, as far as it speaks of parsing: a text either is an interface, and then
// the text of what Parse returns is the same one, token by token; or yields an
// error and its position, which is in the text or at its end.
func TestP7(t *testing.T) {
	r := rand.New(rand.NewSource(7))
	good, bad := 0, 0
	for range 4000 {
		list := words(random(r))
		if r.Intn(2) == 0 {
			i := r.Intn(len(list))
			list = slices.Delete(list, i, i+1)
		}
		s := strings.Join(list, " ")
		table, at, e := parse.Parse(s)
		if e != api.OK {
			bad++
			if at < 0 || at > len(s) {
				t.Errorf("Parse(%q): error %d at %d", s, e, at)
			}
			continue
		}
		good++
		again, _, e := parse.Parse(print(table))
		if print(table) != s || e != api.OK || !kind.Alike(again, table) {
			t.Errorf("Parse(%q): %v, which is %q", s, table, print(table))
		}
	}
	if good < 500 || bad < 500 {
		t.Errorf("%d texts are interfaces, %d are none", good, bad)
	}
}

// P2, R1.
func TestR1(t *testing.T) {
	if math.MaxInt != math.MaxInt64 {
		t.Error("int has not 64 bits")
	}
}

// P2, R2: Split's errors, then the parser's own, then Check's.
func TestR2(t *testing.T) {
	wantHere(t, "program a 65536 version 2 } @?", api.ErrToken)
	wantHere(t, "program a 65536 version 2 @}", api.ErrForm)
	wantHere(t, "program a 65536 version 2 { type T = enum {a, a}; } @}", api.ErrRest)
	wantHere(t, "program a 65536 version 2 { type T = enum {a, a}; }@", api.ErrRange)
	wantHere(t, "program a 6553 version 2 { type T = enum {a, a}; }@", api.ErrTwice)
}

// P2, R3: no table with an error, whatever was parsed before, and no offset
// with a table.
func TestR3(t *testing.T) {
	end := strings.TrimSpace(shop)
	for s, want := range map[string]api.Errno{shop + "?": api.ErrToken, shop + "}": api.ErrRest, end[:len(end)-1]: api.ErrForm,
		strings.Replace(shop, "Shop 1", "Shop 65536", 1): api.ErrRange} {
		if table, _, e := parse.Parse(s); e != want || !reflect.DeepEqual(table, kind.Table{}) {
			t.Errorf("Parse(%q): %v, error %d", s, table, e)
		}
	}
	if table, at, e := parse.Parse(shop); e != api.OK || at != 0 || !kind.Alike(table, shopTable()) {
		t.Errorf("shop: %v, error %d at %d", table, e, at)
	}
}

// P2, R5: an empty list is one, nil or not.
func TestR5(t *testing.T) {
	table, _, e := parse.Parse("program a 1 version 2 { }")
	if e != api.OK || len(table.Types)+len(table.Faults)+len(table.Procs) != 0 {
		t.Errorf("%v, error %d", table, e)
	}
	table.Types, table.Faults, table.Procs = []kind.Alias{}, []kind.Fault{}, []kind.Proc{}
	wantTable(t, "program a 1 version 2 { }", table)
}

// texts returns all the texts of types.
func texts(list ...kind.Type) []string {
	var all []string
	for _, x := range list {
		all = append(append(all, x.Names...), texts(x.Of...)...)
	}
	return all
}

// P2, R6: the texts of a result are none of the argument's memory.
func TestR6Texts(t *testing.T) {
	s := strings.Clone(shop)
	table, _, _ := parse.Parse(s)
	all := []string{table.Name}
	for _, a := range table.Types {
		all = append(append(all, a.Name), texts(a.Type)...)
	}
	for _, f := range table.Faults {
		all = append(all, f.Name)
	}
	for _, p := range table.Procs {
		all = append(append(all, p.Name), texts(p.Takes, p.Answers)...)
	}
	if len(all) != 27 {
		t.Errorf("%d texts: %q", len(all), all)
	}
	first := uintptr(unsafe.Pointer(unsafe.StringData(s)))
	for _, text := range all {
		if at := uintptr(unsafe.Pointer(unsafe.StringData(text))); at >= first && at < first+uintptr(len(s)) {
			t.Errorf("%q is a piece of the argument", text)
		}
	}
}

// ruin overwrites whatever can be reached from a type.
func ruin(x kind.Type) {
	for i := range x.Names[:cap(x.Names)] {
		x.Names[:cap(x.Names)][i] = "ruined"
	}
	for i, part := range x.Of[:cap(x.Of)] {
		ruin(part)
		x.Of[:cap(x.Of)][i] = plain(99)
	}
}

// R6, of lists: each result has its own, and no two lists of one are one.
func TestR6(t *testing.T) {
	table, _, _ := parse.Parse(shop)
	other, _, _ := parse.Parse(shop)
	want := shopTable()
	for i := range table.Types {
		ruin(table.Types[i].Type)
		for j, a := range table.Types[i+1:] {
			if !kind.Same(a.Type, want.Types[i+1+j].Type) {
				t.Errorf("two aliases share memory: %v", a)
			}
		}
	}
	for i, p := range table.Procs {
		if !kind.Same(p.Takes, want.Procs[i].Takes) || !kind.Same(p.Answers, want.Procs[i].Answers) {
			t.Errorf("types share memory: %v", p)
		}
		ruin(p.Takes)
		if !kind.Same(p.Answers, want.Procs[i].Answers) {
			t.Errorf("two types of a procedure share memory: %v", p)
		}
		ruin(p.Answers)
	}
	clear(table.Types[:cap(table.Types)])
	clear(table.Faults[:cap(table.Faults)])
	clear(table.Procs[:cap(table.Procs)])
	if !kind.Alike(other, want) {
		t.Errorf("two results share memory: %v", other)
	}
	tokens, _, _ := lex.Split(shop)
	wantTable(t, shop, want)
	if again, _, _ := lex.Split(shop); !slices.Equal(tokens, again) {
		t.Error("Parse changed tokens of another call")
	}
}

// P2, R8: nothing but the text matters, also not what was parsed before, with
// or without an error. (R4 and R7 ask nothing of this layer: it has no state
// and no objects.)
func TestR8(t *testing.T) {
	list := []string{"", shop, shop + "}", "program a 1 version 2 { }", "program a 1 version 2 { ?", "program a 1 version 65536 {}",
		"program a 1 version 2 { type T = " + nest(5, "seq[1] of ", "bool", "") + "; }", "program a 1 version 2 { type T = seq[1] of "}
	for _, a := range list {
		table, at, e := parse.Parse(a)
		for _, b := range list {
			parse.Parse(b)
			again, atAgain, eAgain := parse.Parse(a)
			if at != atAgain || e != eAgain || !kind.Alike(table, again) {
				t.Errorf("Parse(%q): other results after Parse(%q)", a, b)
			}
		}
	}
}
