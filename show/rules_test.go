package show_test

import (
	"fmt"
	"math"
	"math/rand"
	"reflect"
	"slices"
	"strconv"
	"strings"
	"testing"
	"unsafe"

	"prompter/api"
	"prompter/kind"
	"prompter/show"
)

// wantError checks that Table returns this error, and no text.
func wantError(t *testing.T, what string, table kind.Table, e api.Errno) {
	t.Helper()
	if got, ge := show.Table(table); ge != e || got != "" {
		t.Errorf("Table, %s: %q, error %d, want error %d", what, got, ge, e)
	}
}

// wrong is a type that may not be in a table, and the error that it has there.
type wrong struct {
	x kind.Type
	e api.Errno
}

// wrongs returns such types. The name T is known where they stand.
func wrongs() []wrong {
	const fewest, most = math.MinInt, math.MaxInt
	one, five := plain(kind.Bool), plain(kind.Bool)
	for range 5 {
		five = seq(1, five)
	}
	of := func(k kind.Kind, most int, names string, of ...kind.Type) kind.Type {
		return kind.Type{Kind: k, Most: most, Names: strings.Fields(names), Of: of}
	}
	many := strings.Join(names(13), " ")
	return []wrong{
		{plain(kind.Kinds), api.ErrKind}, {plain(255), api.ErrKind}, {five, api.ErrKind},
		{record("a b", text(0), five), api.ErrRange}, {record("a b", five, text(0)), api.ErrKind},
		{of(kind.Bool, 1, ""), api.ErrRange}, {of(kind.Real, -1, ""), api.ErrRange}, {of(kind.Enum, most, "a"), api.ErrRange},
		{of(kind.Record, fewest, "a", one), api.ErrRange}, {of(kind.Ref, 5, "T"), api.ErrRange},
		{text(0), api.ErrRange}, {text(-1), api.ErrRange}, {text(61), api.ErrRange}, {text(most), api.ErrRange}, {text(fewest), api.ErrRange},
		{seq(0, one), api.ErrRange}, {seq(-5, one), api.ErrRange}, {seq(61, one), api.ErrRange}, {seq(most, one), api.ErrRange}, {seq(fewest, one), api.ErrRange},
		{of(kind.Seq, 1, ""), api.ErrForm}, {of(kind.Seq, 1, "", one, one), api.ErrForm}, {of(kind.Seq, 1, "a", one), api.ErrForm}, {of(kind.Seq, 1, "a"), api.ErrForm},
		{of(kind.Bool, 0, "", one), api.ErrForm}, {of(kind.Card, 0, "a"), api.ErrForm}, {of(kind.Text, 1, "a"), api.ErrForm}, {of(kind.Text, 1, "", one), api.ErrForm},
		{of(kind.Enum, 0, "a", one), api.ErrForm}, {of(kind.Enum, 0, "", one), api.ErrForm},
		{record("a b", one), api.ErrForm}, {record("a", one, one), api.ErrForm}, {record("a"), api.ErrForm}, {record("", one), api.ErrForm},
		{choice("a b", one), api.ErrForm}, {choice("a", one, one), api.ErrForm}, {choice("a"), api.ErrForm}, {choice("", one), api.ErrForm},
		{of(kind.Ref, 0, ""), api.ErrForm}, {of(kind.Ref, 0, "T T"), api.ErrForm}, {of(kind.Ref, 0, "T", one), api.ErrForm}, {of(kind.Ref, 0, "", one), api.ErrForm},
		{enum(), api.ErrMany}, {record(""), api.ErrMany}, {choice(""), api.ErrMany},
		{enum(names(13)...), api.ErrMany}, {record(many, make([]kind.Type, 13)...), api.ErrMany}, {choice(many, make([]kind.Type, 13)...), api.ErrMany},
		{enum(""), api.ErrName}, {enum("a", "seq"), api.ErrName}, {enum("1"), api.ErrName}, {enum("a b"), api.ErrName}, {enum("a\n"), api.ErrName}, {enum(strings.Repeat("a", 21)), api.ErrName},
		{record("a,b", one), api.ErrName}, {choice("first", one), api.ErrName},
		{enum("a", "b", "a"), api.ErrTwice}, {record("a a", one, one), api.ErrTwice}, {choice("b b", one, one), api.ErrTwice},
		{ref("none"), api.ErrNone}, {ref(""), api.ErrNone}, {ref("bool"), api.ErrNone}, {seq(1, record("a b", ref("T"), choice("a", ref("t")))), api.ErrNone},
	}
}

// Each of the errors of types, wherever one stands: in an alias, in what a
// procedure takes, and in what it answers.
func TestP7_1WrongTypes(t *testing.T) {
	one := plain(kind.Bool)
	known := []kind.Alias{{Name: "T", Type: one}}
	for _, w := range wrongs() {
		what := show.Type(w.x) // no panic, whatever it is
		table := small(w.x, one)
		table.Types = known
		wantError(t, what, table, w.e)
		table.Procs = small(one, w.x).Procs
		wantError(t, what, table, w.e)
		table.Procs, table.Types = small(one, one).Procs, []kind.Alias{known[0], {Name: "U", Type: w.x}}
		wantError(t, what, table, w.e)
		if w.e == api.ErrKind { // already too deep
			continue
		}
		table.Types = []kind.Alias{known[0], {Name: "U", Type: record("a b", one, w.x)}}
		wantError(t, what, table, w.e)
	}
}

// The errors of a table itself, and of its entries; and no text, though all
// else is right.
func TestP7_1Errors(t *testing.T) {
	twelve := func(x kind.Type) kind.Type {
		return kind.Type{Kind: kind.Record, Names: names(12), Of: slices.Repeat([]kind.Type{x}, 12)}
	}
	for what, spoil := range map[string]struct {
		e  api.Errno
		do func(t *kind.Table)
	}{
		"no name":                {api.ErrName, func(t *kind.Table) { t.Name = "" }},
		"a word as name":         {api.ErrName, func(t *kind.Table) { t.Name = "program" }},
		"a long name":            {api.ErrName, func(t *kind.Table) { t.Name = strings.Repeat("a", 21) }},
		"a name with a newline":  {api.ErrName, func(t *kind.Table) { t.Name = "Shop\n" }},
		"number -1":              {api.ErrRange, func(t *kind.Table) { t.Number = -1 }},
		"number 65536":           {api.ErrRange, func(t *kind.Table) { t.Number = 65536 }},
		"version -1":             {api.ErrRange, func(t *kind.Table) { t.Version = -1 }},
		"version 65536":          {api.ErrRange, func(t *kind.Table) { t.Version = 65536 }},
		"17 types":               {api.ErrMany, func(t *kind.Table) { t.Types = make([]kind.Alias, 17) }},
		"17 faults":              {api.ErrMany, func(t *kind.Table) { t.Faults = make([]kind.Fault, 17) }},
		"17 procs":               {api.ErrMany, func(t *kind.Table) { t.Procs = make([]kind.Proc, 17) }},
		"a type without name":    {api.ErrName, func(t *kind.Table) { t.Types[2].Name = "" }},
		"two types of one name":  {api.ErrTwice, func(t *kind.Table) { t.Types[2].Name = "Price" }},
		"a type of a later one":  {api.ErrNone, func(t *kind.Table) { t.Types[0].Type = ref("State") }},
		"a fault named real":     {api.ErrName, func(t *kind.Table) { t.Faults[1].Name = "real" }},
		"a fault named as type":  {api.ErrTwice, func(t *kind.Table) { t.Faults[1].Name = "Item" }},
		"a fault of -1":          {api.ErrRange, func(t *kind.Table) { t.Faults[0].Number = -1 }},
		"a fault of 65536":       {api.ErrRange, func(t *kind.Table) { t.Faults[1].Number = 65536 }},
		"two faults of a number": {api.ErrTwice, func(t *kind.Table) { t.Faults[1].Number = 0 }},
		"a proc named 1":         {api.ErrName, func(t *kind.Table) { t.Procs[2].Name = "1" }},
		"a proc named as fault":  {api.ErrTwice, func(t *kind.Table) { t.Procs[2].Name = "Gone" }},
		"a proc of -1":           {api.ErrRange, func(t *kind.Table) { t.Procs[0].Number = -1 }},
		"a proc of 65536":        {api.ErrRange, func(t *kind.Table) { t.Procs[0].Number = 65536 }},
		"a timeout of 0":         {api.ErrRange, func(t *kind.Table) { t.Procs[0].Timeout = 0 }},
		"a timeout of 1001":      {api.ErrRange, func(t *kind.Table) { t.Procs[2].Timeout = 1001 }},
		"a fourth collator":      {api.ErrRange, func(t *kind.Table) { t.Procs[1].Collate = kind.Collators }},
		"collator 255":           {api.ErrRange, func(t *kind.Table) { t.Procs[1].Collate = 255 }},
		"two procs of a number":  {api.ErrTwice, func(t *kind.Table) { t.Procs[2].Number = 0 }},
		"a whole of 205 types": {api.ErrSize, func(t *kind.Table) {
			t.Types = append(t.Types, kind.Alias{Name: "Twelve", Type: twelve(ref("Price"))})
			t.Procs[2].Answers = twelve(record("a b", ref("Twelve"), seq(1, seq(1, ref("State")))))
		}},
		"a whole of too many levels": {api.ErrKind, func(t *kind.Table) {
			for _, name := range []string{"A", "B", "C", "D", "E"} {
				t.Types = append(t.Types, kind.Alias{Name: name, Type: seq(1, seq(1, seq(1, seq(1, ref(t.Types[len(t.Types)-1].Name)))))})
			}
			t.Procs[2].Takes = ref("E")
		}},
	} {
		table := shopTable()
		spoil.do(&table)
		if e := table.Check(); e != spoil.e {
			t.Errorf("Check, %s: error %d, want %d", what, e, spoil.e)
		}
		wantError(t, what, table, spoil.e)
	}
}

// Random tables, spoiled: Check's error and no text, or the text.
func TestP7_1RandomErrors(t *testing.T) {
	r := rand.New(rand.NewSource(71))
	list := wrongs()
	many := map[api.Errno]int{}
	for range 5000 {
		table := random(r)
		if n := len(table.Procs); n > 0 && r.Intn(2) == 0 {
			table.Procs[r.Intn(n)].Answers = seq(1, list[r.Intn(len(list))].x)
		}
		if n := len(table.Procs); n > 0 && r.Intn(4) == 0 {
			table.Procs[r.Intn(n)].Timeout *= 2
		}
		e := table.Check()
		many[e]++
		if e != api.OK {
			wantError(t, "a spoiled table", table, e)
		} else if got, e := show.Table(table); e != api.OK || got != second(table) {
			t.Errorf("Table(%v): %q, error %d", table, got, e)
		}
	}
	for _, e := range []api.Errno{api.OK, api.ErrRange, api.ErrForm, api.ErrKind, api.ErrMany, api.ErrName, api.ErrTwice, api.ErrNone} {
		if many[e] < 20 {
			t.Errorf("error %d of %d tables only", e, many[e])
		}
	}
}

// P1: types of every kind, right or not, with any numbers of names and parts.
func TestP1Shapes(t *testing.T) {
	parts := []kind.Type{plain(kind.Bool), plain(kind.Ref), text(-1), plain(200), record("a b", enum()), seq(1, ref("T"))}
	for k := range 256 {
		for _, most := range []int{math.MinInt, -1, 0, 1, 60, 61, math.MaxInt} {
			for n := range 15 {
				for m := range 15 {
					if k > 12 && n+m > 3 {
						continue
					}
					x := kind.Type{Kind: kind.Kind(k), Most: most, Names: names(n)[:n], Of: slices.Repeat(parts, 3)[:m]}
					wantCheckOnly(t, x)
				}
			}
		}
	}
}

// wantCheckOnly checks that no type makes Type or Table panic, and that Table
// returns Check's error, and a text only without one.
func wantCheckOnly(t *testing.T, x kind.Type) {
	t.Helper()
	show.Type(x)
	for _, table := range []kind.Table{small(x, x), {Name: "a", Types: []kind.Alias{{Name: "b", Type: x}}}} {
		if s, e := show.Table(table); e != table.Check() || (s == "") != (e != api.OK) {
			t.Errorf("Table with a type of kind %d, %d names, %d parts: %q, error %d, want %d", x.Kind, len(x.Names), len(x.Of), s, e, table.Check())
		}
	}
}

// P1: any mixture of types that are not right.
func TestP1Mixed(t *testing.T) {
	r := rand.New(rand.NewSource(1))
	var mixed func(levels int) kind.Type
	mixed = func(levels int) kind.Type {
		x := kind.Type{Kind: kind.Kind(r.Intn(12)), Most: []int{-1, 0, 1, 60, 61, math.MinInt, math.MaxInt}[r.Intn(7)]}
		for range r.Intn(4) {
			x.Names = append(x.Names, []string{"", "a", "seq", "\xff", " ", "a\n", strings.Repeat("x", 99)}[r.Intn(7)])
		}
		for range r.Intn(4) {
			if levels > 0 {
				x.Of = append(x.Of, mixed(levels-1))
			}
		}
		return x
	}
	for range 5000 {
		wantCheckOnly(t, mixed(6))
	}
	wantError(t, "the zero table", kind.Table{}, api.ErrName)
	wantType(t, kind.Type{}, "bool")
}

// P1: types nested deeper than any that is right, and longer lists.
func TestP1Large(t *testing.T) {
	for _, levels := range []int{6, 19, 20, 21, 100, 1000, 1 << 20} {
		x, y := plain(kind.Bool), plain(kind.Bool)
		for range levels {
			x, y = kind.Type{Kind: kind.Seq, Most: 1, Of: []kind.Type{x}}, kind.Type{Kind: kind.Choice, Names: []string{"a"}, Of: []kind.Type{y}}
		}
		show.Type(x)
		show.Type(y)
		wantError(t, "a deep type", small(x, y), api.ErrKind)
		wantError(t, "a deep type", small(y, x), api.ErrKind)
	}
	list := slices.Repeat([]string{"a"}, 1<<18)
	for k := range kind.Kinds {
		show.Type(kind.Type{Kind: k, Names: list})
		show.Type(kind.Type{Kind: k, Of: make([]kind.Type, 1<<18)})
		show.Type(kind.Type{Kind: k, Names: list, Of: make([]kind.Type, 1<<18)})
	}
	wantError(t, "a wide type", small(enum(list...), enum("a")), api.ErrMany)
}

// endless returns a type that, in memory, contains itself.
func endless(k kind.Kind, parts int) kind.Type {
	x := kind.Type{Kind: k, Of: make([]kind.Type, parts)}
	if k == kind.Seq {
		x.Most = 1
	} else {
		for i := range parts {
			x.Names = append(x.Names, "a"+strconv.Itoa(i))
		}
	}
	for i := range x.Of {
		x.Of[i] = x
	}
	return x
}

// P1: endless types, and those that share so much memory that they have more
// parts than can be printed: they are not printed until nothing is left of it.
func TestP1Endless(t *testing.T) {
	for _, k := range []kind.Kind{kind.Seq, kind.Record, kind.Choice, kind.Enum} {
		for _, parts := range []int{1, 2, 12, 13, 1 << 15} {
			x := endless(k, parts)
			wantCheckOnly(t, x)
			if n := len(show.Type(x)); n > 1<<30 {
				t.Errorf("Type of a type of %d parts: %d bytes", parts, n)
			}
		}
	}
	x := plain(kind.Bool)
	for range 30 {
		x = kind.Type{Kind: kind.Record, Names: names(12), Of: slices.Repeat([]kind.Type{x}, 12)}
	}
	wantCheckOnly(t, x)
}

// P2, R1.
func TestR1(t *testing.T) {
	if math.MaxInt != math.MaxInt64 {
		t.Error("int has not 64 bits")
	}
	wantError(t, "2^32 + 1", kind.Table{Name: "a", Number: 1<<32 + 1}, api.ErrRange)
}

// P2, R2: of several errors, the one that Check returns.
func TestR2(t *testing.T) {
	table := shopTable()
	table.Procs[2].Answers = ref("none")
	wantError(t, "an answer", table, api.ErrNone)
	table.Procs[2].Takes = enum()
	wantError(t, "what is taken", table, api.ErrMany)
	table.Procs[1].Timeout = 0
	wantError(t, "a timeout", table, api.ErrRange)
	table.Faults[1].Name = "Sold"
	wantError(t, "a fault", table, api.ErrTwice)
	table.Types[0].Type = plain(99)
	wantError(t, "a type", table, api.ErrKind)
	table.Version = -1
	wantError(t, "a version", table, api.ErrRange)
	table.Name = "of"
	wantError(t, "a name", table, api.ErrName)
}

// P2, R3: no text with an error, and no error with a text. (wantError and
// wantText check it everywhere.)
func TestR3(t *testing.T) {
	table := shopTable()
	wantText(t, table, strings.Split(strings.TrimSuffix(shop, "\n"), "\n")...)
	table.Procs[2].Answers.Of[0].Of[0].Names[0] = "none" // the last thing of all
	wantError(t, "an unknown type", table, api.ErrNone)
}

// P2, R5: empty lists, nil or not.
func TestR5(t *testing.T) {
	table := small(kind.Type{Names: []string{}, Of: []kind.Type{}}, kind.Type{Kind: kind.Enum, Names: []string{"a"}, Of: []kind.Type{}})
	table.Types, table.Faults = []kind.Alias{}, []kind.Fault{}
	wantText(t, table, "program a 1 version 2 {", "  proc p = 3 (bool) returns enum {a} collate first timeout 4;", "}")
	table.Procs = []kind.Proc{}
	wantText(t, table, "program a 1 version 2 {", "}")
	for k := range kind.Kinds {
		if a, b := show.Type(plain(k)), show.Type(kind.Type{Kind: k, Names: []string{}, Of: []kind.Type{}}); a != b {
			t.Errorf("kind %d: %q and %q", k, a, b)
		}
	}
}

// grow gives spare capacity to each list in v, and marks what is there.
func grow(v reflect.Value) {
	switch v.Kind() {
	case reflect.Slice:
		v.Grow(2)
		for i := range v.Len() {
			grow(v.Index(i))
		}
		for i := v.Len(); i < v.Cap(); i++ {
			mark(v.Slice(0, v.Cap()).Index(i))
		}
	case reflect.Struct:
		for i := range v.NumField() {
			grow(v.Field(i))
		}
	}
}

// mark changes the first thing in v, a text or a kind.
func mark(v reflect.Value) {
	for v.Kind() == reflect.Struct {
		v = v.Field(0)
	}
	if v.Kind() == reflect.String {
		v.SetString("spare")
	} else {
		v.SetUint(99)
	}
}

// roomy returns x with such lists.
func roomy[T any](x T) T {
	grow(reflect.ValueOf(&x).Elem())
	return x
}

// dump writes down all that can be reached from v, also what is behind the
// lists' ends.
func dump(v reflect.Value) string {
	s := ""
	switch v.Kind() {
	case reflect.Slice:
		for i := range v.Cap() {
			s += "[" + dump(v.Slice(0, v.Cap()).Index(i)) + "]"
		}
	case reflect.Struct:
		for i := range v.NumField() {
			s += dump(v.Field(i)) + ","
		}
	default:
		s = fmt.Sprintf("%#v", v)
	}
	return s
}

// P2, R6: arguments are not changed, also not behind their lists' ends.
func TestR6(t *testing.T) {
	table := roomy(shopTable())
	before := dump(reflect.ValueOf(table))
	unchanged := func(what string) {
		t.Helper()
		if after := dump(reflect.ValueOf(table)); after != before {
			t.Fatalf("%s changed its argument from %s to %s", what, before, after)
		}
	}
	for range 2 {
		wantText(t, table, strings.Split(strings.TrimSuffix(shop, "\n"), "\n")...)
		unchanged("Table")
		for _, a := range table.Types {
			show.Type(a.Type)
			unchanged("Type")
		}
	}
	table.Procs[2].Timeout = 0
	before = dump(reflect.ValueOf(table))
	wantError(t, "a timeout", table, api.ErrRange)
	unchanged("Table with an error")
}

// R6, of texts: none is a piece of an argument's.
func TestR6Texts(t *testing.T) {
	b := []byte("Price")
	name := unsafe.String(&b[0], len(b))
	table := kind.Table{Name: name, Types: []kind.Alias{{Name: name, Type: enum(name)}}, Procs: small(ref(name), record("a", ref(name))).Procs}
	x, y, z := show.Type(ref(name)), show.Type(enum(name)), show.Type(choice("a", ref(name)))
	s, e := show.Table(table)
	copy(b, "xxxxx")
	if x != "Price" || y != "enum {Price}" || z != "choice {a: Price}" {
		t.Errorf("Type's results change with the argument: %q, %q, %q", x, y, z)
	}
	if want := second(table); e != api.OK || s != strings.ReplaceAll(want, "xxxxx", "Price") {
		t.Errorf("Table's result changes with the argument: %q, error %d", s, e)
	}
}

// P2, R8: nothing but the argument matters: not what was printed before, with
// or without an error, nor how lists are kept, nor who else prints. (R4 and R7
// ask nothing of this layer: it has no state and no objects.)
func TestR8(t *testing.T) {
	bad := shopTable()
	bad.Procs[2].Number = -1
	list := []kind.Table{shopTable(), bad, roomy(shopTable()), {Name: "a"}, {}, small(text(1), enum("a"))}
	done := make(chan bool)
	for range 4 {
		go func() {
			defer func() { done <- true }()
			for range 50 {
				for _, w := range wrongs() {
					show.Type(w.x)
				}
				show.Table(list[0])
			}
		}()
	}
	for _, a := range list {
		s, e := show.Table(a)
		for _, b := range list {
			show.Table(b)
			if again, f := show.Table(a); again != s || f != e {
				t.Errorf("%q, error %d, and then %q, error %d", s, e, again, f)
			}
		}
	}
	for _, w := range wrongs() {
		s := show.Type(w.x)
		wantType(t, record("a b", text(1), plain(kind.Bool)), "record {a: text[1], b: bool}")
		if again := show.Type(w.x); again != s {
			t.Errorf("%q, and then %q", s, again)
		}
		if again := show.Type(roomy(w.x)); again != s {
			t.Errorf("%q, and with other lists %q", s, again)
		}
	}
	for range 4 {
		<-done
	}
}
