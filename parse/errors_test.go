package parse_test

import (
	"math/rand"
	"slices"
	"strings"
	"testing"

	"prompter/api"
	"prompter/kind"
	"prompter/lex"
	"prompter/parse"
)

// grammar tells what each thing consists of, by the token with which it
// begins; by "" for any other token. Between < and > stand things; all else is
// a word or a sign.
var grammar = map[string]map[string]string{
	"<interface>":  {"": "program <name> <number> version <number> { <aliases> } <end>"},
	"<aliases>":    {"type": "type <name> = <type> ; <aliases>", "": "<faults>"},
	"<faults>":     {"error": "error <name> = <number> ; <faults>", "": "<procs>"},
	"<procs>":      {"proc": "proc <name> = <number> ( <type> ) returns <type> collate <collator> timeout <number> ; <procs>", "": ""},
	"<collator>":   {"first": "first", "majority": "majority", "": "all"},
	"<type>":       {"": "<in> <kind> <out>"},
	"<kind>":       {"bool": "bool", "card": "card", "long": "long", "real": "real", "text": "text [ <number> ]", "seq": "seq [ <number> ] of <type>", "record": "record { <fields> }", "enum": "enum { <names> }", "choice": "choice { <fields> }", "": "<name>"},
	"<fields>":     {"": "<name> : <type> <morefields>"},
	"<morefields>": {",": ", <fields>", "": ""},
	"<names>":      {"": "<name> <morenames>"},
	"<morenames>":  {",": ", <names>", "": ""},
}

const keywords = "bool card long real text seq of record enum choice program version type error proc returns collate timeout first majority all"

// fits is what the chapter says of one token that has to be this thing.
func fits(thing string, token lex.Token) api.Errno {
	switch thing {
	case "<name>":
		if token.Kind != lex.Name || len(token.Text) > 20 || slices.Contains(strings.Fields(keywords), token.Text) {
			return api.ErrName
		}
	case "<number>":
		if token.Kind != lex.Number {
			return api.ErrNumber
		}
	case "<end>":
		if token.Kind != lex.End {
			return api.ErrRest
		}
	default:
		if token.Text != thing {
			return api.ErrForm
		}
	}
	return api.OK
}

// first is what the chapter says of the first token that is not as required:
// its offset, and the error. Check's errors are not among them.
func first(s string) (int, api.Errno) {
	tokens, at, e := lex.Split(s)
	if e != api.OK {
		return at, e
	}
	level := 0
	open := []string{"<interface>"}
	for len(open) > 0 {
		thing := open[0]
		open = open[1:]
		if ways := grammar[thing]; ways != nil {
			way, ok := ways[tokens[0].Text]
			if !ok || tokens[0].Text == "" {
				way = ways[""]
			}
			open = append(strings.Fields(way), open...)
			continue
		}
		switch thing {
		case "<in>":
			if level++; level > 5 {
				return tokens[0].At, api.ErrKind
			}
		case "<out>":
			level--
		default:
			if e := fits(thing, tokens[0]); e != api.OK {
				return tokens[0].At, e
			}
			tokens = tokens[1:]
		}
	}
	return 0, api.OK
}

// wantFirst compares Parse of any text with first, and what it returns for
// an interface with the text.
func wantFirst(t *testing.T, s string) {
	t.Helper()
	if at, e := first(s); e != api.OK {
		wantError(t, s, at, e)
		return
	}
	table, at, e := parse.Parse(s)
	if e != api.OK {
		if at != len(s) || !slices.Contains([]api.Errno{api.ErrRange, api.ErrMany, api.ErrTwice, api.ErrNone, api.ErrKind, api.ErrSize}, e) {
			t.Errorf("Parse(%q): error %d at %d", s, e, at)
		}
		return
	}
	tokens, _, _ := lex.Split(s)
	var list []string
	for _, token := range tokens[:len(tokens)-1] {
		list = append(list, token.Text)
	}
	if at != 0 || table.Check() != api.OK || !slices.Equal(words(table), list) {
		t.Errorf("Parse(%q): %v at %d, with the error %d", s, table, at, table.Check())
	}
}

// others are tokens of each sort, and pieces of text that are none.
const others = keywords + " a Price find E x1 abcdefghijklmnopqrst abcdefghijklmnopqrstu 0 1 2 65536 9999999999 { } ( ) [ ] = : ; , ? 01 10000000000 # "

// Each token of an interface left out, doubled, replaced, or with another one
// before it.
func TestP6_1EachToken(t *testing.T) {
	list := words(shopTable())
	for i := range list {
		with := func(middle ...string) string { return strings.Join(slices.Concat(list[:i], middle, list[i+1:]), " ") }
		wantFirst(t, with())
		wantFirst(t, with(list[i], list[i]))
		wantFirst(t, strings.Join(list[:i], " "))
		wantFirst(t, strings.Join(list[i:], " "))
		for _, other := range strings.Fields(others) {
			wantFirst(t, with(other))
			wantFirst(t, with(other, list[i]))
			wantFirst(t, with(list[i]+other))
		}
	}
}

// The errors of shop's text, cut off before each of its bytes.
func TestP6_1EachByte(t *testing.T) {
	for i := range len(shop) {
		wantFirst(t, shop[:i])
		wantFirst(t, shop[i:])
		wantFirst(t, shop[:i]+shop[i+1:])
		for _, c := range []string{"?", "\x00", " ", "#", "\n", "a", "1", ";", "\xff"} {
			wantFirst(t, shop[:i]+c+shop[i:])
			wantFirst(t, shop[:i]+c+shop[i+1:])
		}
	}
}

// Random tables' texts, with some tokens changed.
func TestP6_1RandomErrors(t *testing.T) {
	r := rand.New(rand.NewSource(61))
	pool := strings.Fields(others)
	many := map[api.Errno]int{}
	for range 5000 {
		table := random(r)
		if r.Intn(10) == 0 {
			table.Types = append(table.Types, alias("T", seq(1, randomType(r, 5, table.Types))))
		}
		list := words(table)
		if r.Intn(20) == 0 {
			list = append(list, pool[r.Intn(len(pool))])
		}
		for range 1 + r.Intn(2) {
			i, other := r.Intn(len(list)), pool[r.Intn(len(pool))]
			list = slices.Replace(list, i, i+r.Intn(2), [][]string{{}, {other}, {list[r.Intn(len(list))]}, {other, list[i]}}[r.Intn(4)]...)
		}
		s := strings.Join(list, []string{" ", "\n"}[r.Intn(2)])
		wantFirst(t, s)
		_, e := first(s)
		many[e]++
	}
	for _, e := range []api.Errno{api.OK, api.ErrForm, api.ErrName, api.ErrNumber, api.ErrKind, api.ErrRest, api.ErrToken} {
		if many[e] < 20 {
			t.Errorf("error %d of %d texts only", e, many[e])
		}
	}
}

// What the chapter names, token by token, with the place of the error.
func TestP6_1Marked(t *testing.T) {
	for marked, e := range map[string]api.Errno{
		"@":                               api.ErrForm,
		"  # nothing\n@":                  api.ErrForm,
		"@a":                              api.ErrForm,
		"@1":                              api.ErrForm,
		"@;":                              api.ErrForm,
		"@Program a 1 version 2 {}":       api.ErrForm,
		"program @":                       api.ErrName,
		"program @1 1 version 2 {}":       api.ErrName,
		"program @{":                      api.ErrName,
		"program @version 1":              api.ErrName,
		"program @program 1 version 2 {}": api.ErrName,
		"program @abcdefghijklmnopqrstu 1 version 2 {}": api.ErrName,
		"program abcdefghijklmnopqrst @version 2 {}":    api.ErrNumber,
		"program a @b version 2 {}":                     api.ErrNumber,
		"program a @":                                   api.ErrNumber,
		"program a @= 1 version 2 {}":                   api.ErrNumber,
		"program a 1 @2 {}":                             api.ErrForm,
		"program a 1 @":                                 api.ErrForm,
		"program a 1 @{}":                               api.ErrForm,
		"program a 1 version @{}":                       api.ErrNumber,
		"program a 1 version @b {}":                     api.ErrNumber,
		"program a 1 version 2 @":                       api.ErrForm,
		"program a 1 version 2 @type":                   api.ErrForm,
		"program a 1 version 2 @3 {}":                   api.ErrForm,
		"program a 1 version 2 {@":                      api.ErrForm,
		"program a 1 version 2 { @5 }":                  api.ErrForm,
		"program a 1 version 2 { @a = bool; }":          api.ErrForm,
		"program a 1 version 2 { @record {a: bool} }":   api.ErrForm,
		"program a 1 version 2 { @{ }":                  api.ErrForm,
		"program a 1 version 2 { } @}":                  api.ErrRest,
		"program a 1 version 2 { } @;":                  api.ErrRest,
		"program a 1 version 2 { } @program a 1":        api.ErrRest,
		"program a 1 version 2 { } # end\n @1":          api.ErrRest,
	} {
		wantHere(t, marked, e)
	}
}

// The same within entries.
func TestP6_1MarkedEntries(t *testing.T) {
	for marked, e := range map[string]api.Errno{
		"type @ = bool;":                            api.ErrName,
		"type @type = bool;":                        api.ErrName,
		"type @1 = bool;":                           api.ErrName,
		"type T @bool;":                             api.ErrForm,
		"type T @: bool;":                           api.ErrForm,
		"type T @U = bool;":                         api.ErrForm,
		"type T = @;":                               api.ErrName,
		"type T = @5;":                              api.ErrName,
		"type T = @of;":                             api.ErrName,
		"type T = @[5];":                            api.ErrName,
		"type T = @(bool);":                         api.ErrName,
		"type T = @type;":                           api.ErrName,
		"type T = bool @":                           api.ErrForm,
		"type T = bool @, ":                         api.ErrForm,
		"type T = bool @bool":                       api.ErrForm,
		"type T = bool @[5];":                       api.ErrForm,
		"type T = bool; @;":                         api.ErrForm,
		"type T = bool; @U = bool;":                 api.ErrForm,
		"error @= 5;":                               api.ErrName,
		"error @error = 5;":                         api.ErrName,
		"error @5 = 5;":                             api.ErrName,
		"error E @5;":                               api.ErrForm,
		"error E @(5);":                             api.ErrForm,
		"error E = @;":                              api.ErrNumber,
		"error E = @E;":                             api.ErrNumber,
		"error E = @bool;":                          api.ErrNumber,
		"error E = 5 @":                             api.ErrForm,
		"error E = 5 @6;":                           api.ErrForm,
		"error E = 5 @, ":                           api.ErrForm,
		"error E = 5; @E":                           api.ErrForm,
		"proc @= 3":                                 api.ErrName,
		"proc @proc = 3":                            api.ErrName,
		"proc @3":                                   api.ErrName,
		"proc q @3":                                 api.ErrForm,
		"proc q @(":                                 api.ErrForm,
		"proc q = @(":                               api.ErrNumber,
		"proc q = @q":                               api.ErrNumber,
		"proc q = 3 @bool":                          api.ErrForm,
		"proc q = 3 @;":                             api.ErrForm,
		"proc q = 3 @[bool]":                        api.ErrForm,
		"proc q = 3 (@) returns bool":               api.ErrName,
		"proc q = 3 (bool @bool) returns bool":      api.ErrForm,
		"proc q = 3 (bool @, bool) returns bool":    api.ErrForm,
		"proc q = 3 (bool @returns bool":            api.ErrForm,
		"proc q = 3 (bool) @bool":                   api.ErrForm,
		"proc q = 3 (bool) @;":                      api.ErrForm,
		"proc q = 3 (bool) @return bool":            api.ErrForm,
		"proc q = 3 (bool) returns @;":              api.ErrName,
		"proc q = 3 (bool) returns @(bool)":         api.ErrName,
		"proc q = 3 (bool) returns @collate all":    api.ErrName,
		"proc q = 3 (bool) returns bool @;":         api.ErrForm,
		"proc q = 3 (bool) returns bool @timeout":   api.ErrForm,
		"proc q = 3 (bool) returns bool collate @;": api.ErrForm,
		"proc q = 3 (bool) returns bool collate @timeout 4;":                               api.ErrForm,
		"proc q = 3 (bool) returns bool collate @4 timeout 4;":                             api.ErrForm,
		"proc q = 3 (bool) returns bool collate all @;":                                    api.ErrForm,
		"proc q = 3 (bool) returns bool collate all @4;":                                   api.ErrForm,
		"proc q = 3 (bool) returns bool collate all timeout @;":                            api.ErrNumber,
		"proc q = 3 (bool) returns bool collate all timeout @t;":                           api.ErrNumber,
		"proc q = 3 (bool) returns bool collate all timeout 4 @":                           api.ErrForm,
		"proc q = 3 (bool) returns bool collate all timeout 4 @5":                          api.ErrForm,
		"proc q = 3 (bool) returns bool collate all timeout 4; @q = 5 (bool) returns bool": api.ErrForm,
	} {
		wantHere(t, "program a 1 version 2 { "+marked+"}", e)
	}
}

// The same within types, wherever they stand.
func TestP6_1MarkedTypes(t *testing.T) {
	for marked, e := range map[string]api.Errno{
		"@":                               api.ErrName,
		"@,":                              api.ErrName,
		"@{}":                             api.ErrName,
		"@12":                             api.ErrName,
		"@first":                          api.ErrName,
		"@abcdefghijklmnopqrstu":          api.ErrName,
		"text@":                           api.ErrForm,
		"text@ 5":                         api.ErrForm,
		"text@(5)":                        api.ErrForm,
		"text[@]":                         api.ErrNumber,
		"text[@a]":                        api.ErrNumber,
		"text[@[5]]":                      api.ErrNumber,
		"text[5@":                         api.ErrForm,
		"text[5@ 6]":                      api.ErrForm,
		"text[5@, 6]":                     api.ErrForm,
		"text[5] @of bool":                api.ErrForm,
		"seq@":                            api.ErrForm,
		"seq @of bool":                    api.ErrForm,
		"seq[@] of bool":                  api.ErrNumber,
		"seq[@of] of bool":                api.ErrNumber,
		"seq[5@ of bool":                  api.ErrForm,
		"seq[5] @":                        api.ErrForm,
		"seq[5] @bool":                    api.ErrForm,
		"seq[5] of @":                     api.ErrName,
		"seq[5] of @of bool":              api.ErrName,
		"seq[5] of @5":                    api.ErrName,
		"seq[5] of seq[5] @real":          api.ErrForm,
		"record@":                         api.ErrForm,
		"record @a: bool":                 api.ErrForm,
		"record @[a: bool]":               api.ErrForm,
		"record {@}":                      api.ErrName,
		"record {@:}":                     api.ErrName,
		"record {@,a: bool}":              api.ErrName,
		"record {@{a: bool}}":             api.ErrName,
		"record {@bool: bool}":            api.ErrName,
		"record {@1: bool}":               api.ErrName,
		"record {a@}":                     api.ErrForm,
		"record {a@ bool}":                api.ErrForm,
		"record {a@, b}":                  api.ErrForm,
		"record {a@ = bool}":              api.ErrForm,
		"record {a:@}":                    api.ErrName,
		"record {a:@, b: bool}":           api.ErrName,
		"record {a:@: bool}":              api.ErrName,
		"record {a: bool@":                api.ErrForm,
		"record {a: bool@;}":              api.ErrForm,
		"record {a: bool@ b: bool}":       api.ErrForm,
		"record {a: bool,@}":              api.ErrName,
		"record {a: bool,@, b: bool}":     api.ErrName,
		"record {a: bool, b@}":            api.ErrForm,
		"record {a: bool, b: bool@: bool": api.ErrForm,
		"record {a: enum {a}@":            api.ErrForm,
		"record {a: bool} @,":             api.ErrForm,
		"choice@":                         api.ErrForm,
		"choice {@}":                      api.ErrName,
		"choice {a@}":                     api.ErrForm,
		"choice {a@, b}":                  api.ErrForm,
		"choice {a: bool,@}":              api.ErrName,
		"choice {a: text@: bool}":         api.ErrForm,
		"enum@":                           api.ErrForm,
		"enum @a":                         api.ErrForm,
		"enum {@}":                        api.ErrName,
		"enum {@,}":                       api.ErrName,
		"enum {@1}":                       api.ErrName,
		"enum {@real}":                    api.ErrName,
		"enum {a@":                        api.ErrForm,
		"enum {a@: bool}":                 api.ErrForm,
		"enum {a@ b}":                     api.ErrForm,
		"enum {a,@}":                      api.ErrName,
		"enum {a,@,b}":                    api.ErrName,
		"enum {a, b@; c}":                 api.ErrForm,
		"enum {a, b} @{c}":                api.ErrForm,
		"T @U":                            api.ErrForm,
		"T @[5]":                          api.ErrForm,
	} {
		wantHere(t, "program a 1 version 2 { type T = "+marked+"; }", e)
		wantHere(t, "program a 1 version 2 { proc q = 3 ("+marked+") returns bool collate all timeout 4; }", e)
		if !strings.HasPrefix(marked, "@,") { // "returns , collate"
			wantHere(t, "program a 1 version 2 { proc q = 3 (bool) returns "+marked+" collate all timeout 4; }", e)
		}
	}
}

// nest returns the text of a type nested in n others, of which each has a
// head and a tail.
func nest(n int, head, inner, tail string) string {
	return strings.Repeat(head, n) + inner + strings.Repeat(tail, n)
}

// Types nested in four others and in five.
func TestP6_1Deep(t *testing.T) {
	inners := []string{"bool", "card", "long", "real", "text[5]", "seq[5] of bool", "record {a: bool}", "enum {a}", "choice {a: real}", "T"}
	for _, outer := range [][2]string{{"seq[5] of ", ""}, {"record {a: ", "}"}, {"choice {a: ", ", c: bool}"}} {
		for n := range 12 {
			for _, inner := range inners {
				s := "program a 1 version 2 { type T = bool; type U = " + nest(n, outer[0], inner, outer[1]) + "; }"
				deep := n > 4 || n > 3 && strings.ContainsAny(inner, ":q")
				if _, _, e := parse.Parse(s); (e == api.ErrKind) != deep || !deep && e != api.OK {
					t.Errorf("Parse(%q): error %d", s, e)
				}
				if deep {
					at := strings.Index(s, "U = ") + 4 + 5*len(outer[0])
					if n == 4 {
						at = strings.Index(s, inner+outer[1]+outer[1]) + max(strings.Index(inner, "of "), strings.Index(inner, ": ")-1) + 3
					}
					wantError(t, s, at, api.ErrKind)
				}
			}
		}
	}
}

func TestP6_1DeepMarked(t *testing.T) {
	const four = "seq[1] of record {a: choice {a: seq[2] of "
	for marked, e := range map[string]api.Errno{
		four + "seq[3] of @bool}}":                                api.ErrKind,
		four + "seq[3] of @bool":                                  api.ErrKind, // whatever else is wrong behind it
		four + "seq[3] of @Nothing}}":                             api.ErrKind,
		four + "seq[3] of @seq[3] of bool}}":                      api.ErrKind,
		four + "seq[3] of @text 5}}":                              api.ErrKind,
		four + "record {a: @bool, b: bool}}}":                     api.ErrKind,
		four + "choice {a: @enum {a}}}}":                          api.ErrKind,
		four + "enum {a@: bool}}}":                                api.ErrForm,
		four + "seq[3] @bool}}":                                   api.ErrForm, // before that
		four + "seq[@bool] of bool}}":                             api.ErrNumber,
		four + "record {@1: bool}}}":                              api.ErrName,
		four + "record {a@}}}":                                    api.ErrForm,
		four + "enum {a}, a: " + "bool}}; @;":                     api.ErrForm, // the levels are left again
		four + "bool}, b: choice {a: seq[2] of seq[3] of @bool}}": api.ErrKind,
		"record {a: seq[1] of seq[1] of seq[1] of bool, b: seq[1] of seq[1] of seq[1] of bool, c: seq[1] of seq[1] of seq[1] of seq[1] of @bool}": api.ErrKind,
	} {
		wantHere(t, "program a 1 version 2 { type T = "+marked+"; }", e)
	}
	inner := fields(kind.Record, "a", fields(kind.Choice, "a", seq(2, enum("a"))))
	wantTable(t, "program a 1 version 2 { type T = "+four+"enum {a}}}; }",
		kind.Table{Name: "a", Number: 1, Version: 2, Types: []kind.Alias{alias("T", seq(1, inner))}})
}

// What a type of the sixth level would have been does not matter: nothing
// that stands there is as required.
func TestP6_1DeepAnything(t *testing.T) {
	for _, token := range strings.Fields(keywords + " a abcdefghijklmnopqrstu 5 { } ( ) [ ] = : ; ,") {
		wantHere(t, "program a 1 version 2 { type T = seq[1] of seq[1] of seq[1] of seq[1] of seq[1] of @"+token+"; }", api.ErrKind)
	}
	wantHere(t, "program a 1 version 2 { type T = seq[1] of seq[1] of seq[1] of seq[1] of seq[1] of @", api.ErrKind)
}

// An error of Split comes first, wherever it is.
func TestP6_1Split(t *testing.T) {
	const good = "program a 1 version 2 { }"
	for marked, e := range map[string]api.Errno{
		"@?" + good:                           api.ErrToken,
		good + "@?":                           api.ErrToken,
		good + " more @01":                    api.ErrNumber,
		"wrong a 1 version 2 { } @?":          api.ErrToken,
		"program a 1 version 2 { @? type a a": api.ErrToken,
		"program a b @01":                     api.ErrNumber,
		"program a @01 b":                     api.ErrNumber,
		"program a @12345678901 version 2 {}": api.ErrNumber,
		"program 5 @12345678901 ? {}":         api.ErrNumber,
		"program 5 @? 12345678901 {}":         api.ErrToken,
		"program a 65536 version 2 {} @?":     api.ErrToken, // before Check's too
		"program a 1 version 2 { type T = seq[5] of seq[5] of seq[5] of seq[5] of seq[5] of bool; @_ }": api.ErrToken,
	} {
		wantHere(t, marked, e)
	}
	wantTable(t, good+" # ? 01", kind.Table{Name: "a", Number: 1, Version: 2})
}

func TestP6_1Size(t *testing.T) {
	const good = "program a 1 version 2 { }"
	fill := strings.Repeat(" ", api.MaxText-len(good))
	want := kind.Table{Name: "a", Number: 1, Version: 2}
	wantTable(t, good+fill, want)
	wantTable(t, fill+good, want)
	wantTable(t, good+"#"+fill[1:], want)
	wantError(t, good+fill+" ", 4000, api.ErrSize)
	wantError(t, " "+fill+good, 4000, api.ErrSize)
	wantError(t, good+fill+"?", 4000, api.ErrSize)
	wantError(t, good+"#"+fill, 4000, api.ErrSize)
	wantError(t, "?"+good+fill, 4000, api.ErrSize)
	wantError(t, strings.Repeat(good, 1000), 4000, api.ErrSize)
	wantError(t, strings.Repeat(";", 4000), 0, api.ErrForm)
	wantError(t, strings.Repeat(";", 4001), 4000, api.ErrSize)
}

// Check's errors, with the length of the text.
func TestP6_1Check(t *testing.T) {
	for s, e := range map[string]api.Errno{
		"program a 65536 version 2 { }":                                                         api.ErrRange,
		"program a 1 version 65536 { }":                                                         api.ErrRange,
		"program a 9999999999 version 9999999999 { } # and more\n":                              api.ErrRange,
		"program a 4294967296 version 0 { }":                                                    api.ErrRange, // 2^32
		"program a 1 version 2 { type T = bool; type T = card; }":                               api.ErrTwice,
		"program a 1 version 2 { type T = bool; error T = 5; } ":                                api.ErrTwice,
		"program a 1 version 2 { type T = text[0]; }\n":                                         api.ErrRange,
		"program a 1 version 2 { type T = text[61]; }":                                          api.ErrRange,
		"program a 1 version 2 { type T = seq[0] of bool; }":                                    api.ErrRange,
		"program a 1 version 2 { type T = seq[61] of bool; }":                                   api.ErrRange,
		"program a 1 version 2 { type T = seq[4294967301] of bool; }":                           api.ErrRange, // 2^32 + 5
		"program a 1 version 2 { type T = enum {a, a}; }":                                       api.ErrTwice,
		"program a 1 version 2 { type T = record {a: bool, a: card}; }":                         api.ErrTwice,
		"program a 1 version 2 { type T = choice {a: bool, a: card}; }":                         api.ErrTwice,
		"program a 1 version 2 { type T = enum {a,b,c,d,e,f,g,h,i,j,k,l,m}; }":                  api.ErrMany,
		"program a 1 version 2 { type T = T; }":                                                 api.ErrNone,
		"program a 1 version 2 { type T = U; type U = bool; }":                                  api.ErrNone,
		"program a 1 version 2 { type T = seq[5] of record {x: U}; }":                           api.ErrNone,
		"program a 1 version 2 { error E = 65536; }":                                            api.ErrRange,
		"program a 1 version 2 { error E = 5; error F = 5; }":                                   api.ErrTwice,
		"program a 1 version 2 { error E = 5; error E = 6; }":                                   api.ErrTwice,
		"program a 1 version 2 { proc q = 65536 (bool) returns bool collate all timeout 4; }":   api.ErrRange,
		"program a 1 version 2 { proc q = 3 (bool) returns bool collate all timeout 0; }":       api.ErrRange,
		"program a 1 version 2 { proc q = 3 (bool) returns bool collate all timeout 1001; } \t": api.ErrRange,
		"program a 1 version 2 { proc q = 3 (T) returns bool collate all timeout 4; }":          api.ErrNone,
		"program a 1 version 2 { proc q = 3 (bool) returns T collate all timeout 4; }":          api.ErrNone,
	} {
		wantError(t, s, len(s), e)
	}
}

// As many entries as there may be, and one more.
func TestP6_1Many(t *testing.T) {
	for i, entry := range []string{"type T@ = bool; ", "error T@ = @; ", "proc T@ = @ (bool) returns bool collate all timeout 4; "} {
		var list strings.Builder
		for n := range 30 {
			s := "program a 1 version 2 { " + list.String() + "}"
			table, _, e := parse.Parse(s)
			if n > 16 {
				wantError(t, s, len(s), api.ErrMany)
			} else if e != api.OK || []int{len(table.Types), len(table.Faults), len(table.Procs)}[i] != n {
				t.Errorf("Parse(%q): %v, error %d", s, table, e)
			}
			list.WriteString(strings.ReplaceAll(entry, "@", string([]byte{'1' + byte(n/10), '0' + byte(n%10)})))
		}
	}
}

// Whole's errors are Check's too: aliases of aliases, of many types or levels.
func TestP6_1Whole(t *testing.T) {
	const twelve = "record {a: X, b: X, c: X, d: X, e: X, f: X, g: X, h: X, i: X, j: X, k: X, l: X}"
	const proc = "proc q = 3 (Last) returns bool collate all timeout 4; }"
	s := "program a 1 version 2 { type X = bool; type Y = " + twelve + "; type Last = " + strings.ReplaceAll(twelve, "X", "Y") + "; "
	table, _, e := parse.Parse(s + "}")
	if e != api.OK || len(table.Types) != 3 {
		t.Errorf("Parse(%q): %v, error %d", s, table, e)
	}
	wantTable(t, s+strings.Replace(proc, "Last", "Y", 1), kind.Table{Name: "a", Number: 1, Version: 2, Types: table.Types,
		Procs: []kind.Proc{{Name: "q", Number: 3, Takes: ref("Y"), Collate: kind.All, Timeout: 4}}})
	s += "type More = record {a: Last, b: Last}; "
	wantError(t, s+strings.Replace(proc, "Last", "More", 1), len(s+proc), api.ErrSize)
	s = "program a 1 version 2 { type A = " + nest(4, "seq[1] of ", "bool", "") + "; "
	for name := byte('B'); name <= 'E'; name++ {
		s += "type " + string(rune(name)) + " = " + nest(4, "seq[1] of ", string(rune(name-1)), "") + "; "
	}
	wantError(t, s+strings.Replace(proc, "Last", "E", 1), len(s+proc)-3, api.ErrKind)
}
